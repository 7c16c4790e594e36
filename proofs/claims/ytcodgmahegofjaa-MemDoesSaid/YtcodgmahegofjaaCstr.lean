/- Package mem: Store. -/
import Derived.Test.YtcodgmahegofjaaCsto
namespace Go.Proofs.Ytcodgmahegofjaa
open Go.ChangeShapes Go.WideShapes Go.ChangeAt Go.RowKit
set_option linter.unusedVariables false
set_option linter.unusedSimpArgs false

theorem row_put {W o s v : Nat} (h : o + s ≤ 8) : ((rowA (byteN W) 8).toList.take o ++ (rowA (byteN v) s).toList ++ (rowA (byteN W) 8).toList.drop (o + s)).toArray = rowA (putW W o s v) 8 := by
  apply Array.ext'
  rw [rowA_list, rowA_list, rowA_list, List.toList_toArray]
  apply List.ext_getElem
  · simp; omega
  · intro i h1 h2
    have hi : i < 8 := by simpa using h2
    rw [List.getElem_map, List.getElem_range]
    by_cases c1 : i < o
    · rw [List.getElem_append_left (by simp; omega), List.getElem_append_left (by simp; omega), List.getElem_take, List.getElem_map, List.getElem_range]
      unfold putW; rw [if_neg (by omega)]
    · by_cases c2 : i < o + s
      · rw [List.getElem_append_left (by simp; omega), List.getElem_append_right (by simp; omega), List.getElem_map, List.getElem_range]
        unfold putW; rw [if_pos (by omega)]
        simp only [List.length_take, List.length_map, List.length_range, show min o 8 = o by omega]
      · rw [List.getElem_append_right (by simp; omega), List.getElem_drop, List.getElem_map, List.getElem_range]
        unfold putW; rw [if_neg (by omega)]
        simp only [List.length_append, List.length_take, List.length_map, List.length_range, show min o 8 = o by omega]
        rw [show o + s + (i - (o + s)) = i by omega]

theorem u8_one : (Try.prog.info? 5).map (·.size) = some 1 := by kernel_rfl

/-- the bytes put, copied into the word's -/
theorem copy_put (w : World) (W v s o g : Nat) (h : o + s ≤ 8) (hg : w.heap[g]? = some (.cells (rowA (byteN W) 8) 5)) (ty : TypeId) :
    (Builtin.copy_ #[53, 53] ty #[.slice (some ⟨g, o, none⟩) (8 - o) (8 - o), .slice (some ⟨w.heap.size, 0, none⟩) s s]).run Try.prog (w.alloc (.cells (rowA (byteN v) s) 5)) =
      .ok (goInt s) ((w.alloc (.cells (rowA (byteN v) s) 5)).setRow g (rowA (putW W o s v) 8)) := by
  have hlt : g < w.heap.size := (Array.getElem?_eq_some_iff.1 hg).1
  have hl : (rowA (byteN v) s).toList.length = s := by rw [rowA_list]; simp
  have h := run_copy_row (P := Try.prog) (w.alloc (.cells (rowA (byteN v) s) 5)) 53 53 ty 5 g o (8 - o) (8 - o) ⟨w.heap.size, 0, none⟩ s s (rowA (byteN W) 8) 5 (rowA (byteN v) s).toList
    Try.underlying53 u8_one ((Below.heap_alloc w _ g hlt).trans hg) (by rw [hl]; exact (Nat.min_eq_left (by omega)).symm)
    (by
      intro j u hj
      have e : (⟨w.heap.size, 0, none⟩ : Addr).add j = ⟨w.heap.size, j, none⟩ := by unfold Addr.add; split <;> simp_all
      rw [e, cell_of_row _ _ _ _ _ _ (heap_alloc_new w _)]
      simpa using hj)
    (by rw [hl, rowA_size]; exact h)
    (by
      intro u hu
      rw [rowA_list] at hu
      simp only [List.mem_map] at hu
      obtain ⟨j, _, rfl⟩ := hu
      rfl)
  rw [hl, row_put (by assumption)] at h
  exact h

theorem slb_new (W o s v : Nat) {w : World} {g : Nat} (hg : w.heap[g]? = some (.cells (rowA (putW W o s v) 8) 5)) : SlB w (some ⟨g, 0, none⟩) (rowN (putW W o s v) 8) := by
  intro _
  refine ⟨_, _, rfl, (Array.getElem?_eq_some_iff.1 hg).1, fun i hi => ?_⟩
  rw [rowN_len] at hi
  have e : bAt (rowN (putW W o s v) 8) i = putW W o s v i := by unfold bAt; exact rowN_at _ hi
  rw [e, Nat.zero_add, cell_of_row _ _ _ _ _ _ hg, rowA_get _ hi]

theorem results_two {fn : Func} {p u : Tmp} {ty : TypeId} {P : Program} (h : fn.results = #[.cell p ty, .tmp u]) (tmps : Array Value) (w : World) (g : Nat) (t : TypeId) (cs : Array Value) (fr : Nat × Nat) (d : TypeDesc)
    (hp : tmps.getD p undef = .pointer (some ⟨g, 0, none⟩)) (hg : w.heap[g]? = some (.cells cs t fr))
    (hd : (match d with | .struct _ | .array _ _ => true | _ => false) = true) (hu : P.underlying ty = some d) (hi : (P.info? ty).map (·.size) = some cs.size) :
    (results fn tmps).run P w = .ok (.tuple #[.agg cs, tmps.getD u undef]) w := by
  rw [results_cell_tmp h, hp]
  simp [asAddr, run_loadVar_row w g t ty cs fr d hg hu (by cases d <;> first | rfl | exact hd) hi]

/-- what Store leaves, where it stores -/
def Stored (S : Nat) (L : List (Nat × Nat)) (w : World) (e : Ending) (w' : World) : Prop :=
  ∃ v, e = .returned (.tuple #[.agg #[.int .u64 (S : Int), v], .int .i64 0]) ∧ w'.ownsRow w.heap.size 48 2 v L.length (cellVs L) ∧ Ext w w'

set_option maxRecDepth 100000 in
set_option maxHeartbeats 4000000 in
theorem store_c (S : Nat) (A : Option Addr) (L : List (Nat × Nat)) (c a s v m : Nat) (hL : RL m L) (a1 : a < 18446744073709551616) (v1 : v < 18446744073709551616) (hz : IsSize s) (h2 : a % s = 0) (h3 : a < S) (hn : L.length ≤ 40000) (w : World) (hr : RowL w A L c) :
    Calls Try.prog 17 #[.agg #[.int .u64 (S : Int), .slice A L.length c], .int .u64 (a : Int), .int .i64 (s : Int), .int .u64 (v : Int)] w (Stored S (storeL L a s v) w) := by
  have hW := wordL_lt hL (a / 8)
  have hN := newW_lt (wordL L (a / 8)) (a % 8) s v
  have h8 : a % 8 + s ≤ 8 := by rcases hz with rfl | rfl | rfl | rfl <;> omega
  go_enter Try.func17, Try.ntmps17
  go_wp2_with fail
  refine (wrong_c S A L.length c a s a1 _).mono ?_
  rintro e w1 ⟨rfl, hE1⟩
  rw [errN_0 hz h2 h3]
  have hE1' := (((Ext.refl w).alloc _).alloc _).trans hE1
  have hb0 : w1.cell? ⟨w.heap.size, 0, none⟩ = some (.int .u64 (S : Int)) := (hE1.cell (p := ⟨w.heap.size, 0, none⟩) (by simp; omega)).trans (by simp)
  have hb1 : w1.cell? ⟨w.heap.size, 1, none⟩ = some (.slice A L.length c) := (hE1.cell (p := ⟨w.heap.size, 1, none⟩) (by simp; omega)).trans (by simp)
  go_wp2_with fail
  refine (word_c S A L c a m a1 hL (by omega) _ (hr.1.ext hE1')).mono ?_
  rintro e w2 ⟨rfl, hE2⟩
  go_wp2_with fail
  refine (put_c _ 8 hW (.inr (.inr (.inr rfl))) _).mono ?_
  rintro e w3 ⟨rfl, hw3⟩
  subst hw3
  have hlo : a % 8 ≤ 8 := by omega
  go_wp2_with fail
  refine wp_region_seq [(0, false), (1, false), (2, false), (3, false), (4, false), (5, false), (6, true), (7, true)] (Below (w2.heap.size)) (by kernel_rfl) (by kernel_rfl) (Below.refl _) (fun _ _ _ => Below.trans) ?_; simp only [List.map, nth_z, nth_s]
  (repeat (first | (refine seq_skip (by rfl) ?_; intro K hK; simp only [Act.put, List.setIfInBounds_toArray, List.set_cons_zero, List.set_cons_succ]; refine hK _ ?_; clear hK K) | (refine seq_skipc (by rfl) ?_; intro K hK; simp only [Act.put, List.setIfInBounds_toArray, List.set_cons_zero, List.set_cons_succ]; refine hK _ ?_; clear hK K) | (refine seq_read (by rfl) (by rfl) ?_; intro K hK; go_big_quiet_op; first | go_big_quiet_on | (refine ⟨_, fun _ _ => rfl, ?_⟩; go_big_quiet_on))))
  obtain ⟨W3, hW3⟩ : ∃ W3, W3 = (w2.alloc (.cells (rowA (byteN (wordL L (a / 8))) 8) 5)).drew := ⟨_, rfl⟩
  have hg3 : W3.heap[w2.heap.size]? = some (.cells (rowA (byteN (wordL L (a / 8))) 8) 5) := by rw [hW3]; exact heap_alloc_new w2 _
  have hs3 : W3.heap.size = w2.heap.size + 1 := by rw [hW3]; exact World.size_alloc _ _
  have hE3 : Ext w2 W3 := by rw [hW3]; exact ((Ext.refl w2).alloc _).drew
  rw [← hW3]
  refine seq_call (put_c v s v1 hz _) rfl Try.func27 (by kernel_rfl) (by kernel_rfl) (by rfl) (by rfl) ?_; intro K hK; rintro e w' ⟨rfl, hw4⟩; refine ⟨_, rfl, (by rw [hw4]; exact Below.alloc (Below.refl _ _) (by omega) _), ?_⟩; simp only [Act.put, List.setIfInBounds_toArray, List.set_cons_zero, List.set_cons_succ]; refine hK _ _ ?_; clear hK K
  subst hw4
  refine seq_copy (goInt s) _ (.slice (some ⟨w2.heap.size, a % 8, none⟩) (8 - a % 8) (8 - a % 8)) (.slice (some ⟨W3.heap.size, 0, none⟩) s s) rfl rfl rfl (by rfl) (copy_put W3 (wordL L (a / 8)) v s (a % 8) w2.heap.size h8 hg3) (below_setRow (Below.refl _ _) (by omega) _) ?_
  intro K hK
  simp only [Act.put, List.setIfInBounds_toArray, List.set_cons_zero, List.set_cons_succ]
  refine hK _ _ ?_
  clear hK K
  obtain ⟨w5, hw5⟩ : ∃ w5, w5 = (W3.alloc (.cells (rowA (byteN v) s) 5)).setRow w2.heap.size (rowA (putW (wordL L (a / 8)) (a % 8) s v) 8) := ⟨_, rfl⟩
  have hg5 : w5.heap[w2.heap.size]? = some (.cells (rowA (putW (wordL L (a / 8)) (a % 8) s v) 8) 5) := by
    rw [hw5]
    exact setRow_heap _ _ _ _ _ _ ((Below.heap_alloc W3 _ w2.heap.size (by omega)).trans hg3)
  have hE5 : Ext w2 w5 := by rw [hw5]; exact below_setRow (hE3.alloc _) (by omega) _
  rw [← hw5]
  have hsl := slb_new _ _ _ _ hg5
  have hb05 : w5.cell? ⟨w.heap.size, 0, none⟩ = some (.int .u64 (S : Int)) := ((hE2.trans hE5).cell (p := ⟨w.heap.size, 0, none⟩) (block_lt_of_cell hb0)).trans hb0
  have hb15 : w5.cell? ⟨w.heap.size, 1, none⟩ = some (.slice A L.length c) := ((hE2.trans hE5).cell (p := ⟨w.heap.size, 1, none⟩) (block_lt_of_cell hb1)).trans hb1
  have hEw : Ext ((w.alloc (.cells #[.int .u64 (S : Int), .slice A L.length c] 25)).alloc (.cells #[.int .u64 0, .slice none 0 0] 25)) w5 := hE1.trans (hE2.trans hE5)
  have hs5 : w.heap.size + 2 ≤ w5.heap.size := by have h := hEw.size; rw [World.size_alloc, World.size_alloc] at h; omega
  have hr5 : RowL w5 A L c := hr.ext ((((Ext.refl w).alloc _).alloc _).trans hEw)
  clear hb0 hb1 hg5 hg3 hw5 hW3 hs3 hE3 hE5 hE1 hE1' hE2
  refine seq_done ?_
  go_wp2_with fail
  refine (getrow_c _ (putW (wordL L (a / 8)) (a % 8) s v) 8 _ (putW_lt _ _ _ _) (by omega) _ hsl).mono ?_
  rintro e w6 ⟨rfl, rfl⟩
  have hval : numN (rowN (putW (wordL L (a / 8)) (a % 8) s v) 8) = newW (wordL L (a / 8)) (a % 8) s v := rfl
  rw [hval]
  clear hval hsl
  have hst : storeL L a s v = cutL L (a / 8) (a / 8 + 1) (if newW (wordL L (a / 8)) (a % 8) s v = 0 then [] else [(a / 8, newW (wordL L (a / 8)) (a % 8) s v)]) := rfl
  generalize newW (wordL L (a / 8)) (a % 8) s v = N at *
  generalize storeL L a s v = LL at *
  by_cases hv : N = 0
  · have hd : ((N : Int) != 0) = false := by simp; omega
    rw [if_pos hv] at hst
    have Hst := Lib.hid hst
    clear hst hv
    go_wp2_with fail
    refine (instead_a S A L c (a / 8) 1 m none [] 0 hL (by omega) (by simp; omega) w5 hr5 (RowL.nil _)).mono ?_
    rintro e w7 ⟨u, rfl, hown, hE⟩; obtain ⟨A4, c4, rfl, hr4⟩ := own_row hown; have hE7 := hEw.trans (hE); have hW7 := ext_blk hE7; have hz0 := (cell_of_row w7 _ 0 _ _ _ hW7).trans rfl; have hz1 := (cell_of_row w7 _ 1 _ _ _ hW7).trans rfl; have hf0 := frozen_of_row w7 _ 0 _ _ hW7; have hf1 := frozen_of_row w7 _ 1 _ _ hW7; have Hown := Lib.hid hown; have HE := Lib.hid ((((Ext.refl w).alloc _).alloc _).trans hE7); clear hown hE hr4 hE7; go_wp2; (try simp only [Exit.inBlock, Exit.then]); refine bodyPost_ret (results_two rfl _ _ _ _ _ _ _ rfl (set_two hW7 _ _) rfl Try.underlying25 (by kernel_rfl)) rfl ?_; exact ⟨_, rfl, (by rw [Hst.out]; exact own_set (w := w) (w' := w7) (by omega) Hown.out _ _), ext_set HE.out _ _⟩
  · have hd : ((N : Int) != 0) = true := by simp; omega
    rw [if_neg hv] at hst
    have Hst := Lib.hid hst
    clear hst
    have hk : RowL (w5.alloc (.cells #[.int .u64 ((a / 8 : Nat) : Int), .int .u64 (N : Int)] 48)) (some ⟨w5.heap.size, 0, none⟩) [(a / 8, N)] 1 := by
      refine ⟨fun _ => ⟨_, _, rfl, by rw [World.size_alloc]; omega, fun i hi => ?_⟩, fun e => (by cases e), by simp, by omega⟩
      obtain rfl : i = 0 := by simpa using hi
      exact ⟨(cell_of_row _ _ _ _ _ _ (heap_alloc_new w5 _)).trans (by simp [atN]), (cell_of_row _ _ _ _ _ _ (heap_alloc_new w5 _)).trans (by simp [vlN])⟩
    have Hk := Lib.hid hk
    clear hv hk
    have hlt5 : w.heap.size < w5.heap.size := by omega
    have hne5 : ¬ w.heap.size = w5.heap.size := by omega
    go_wp2_with fail
    refine (instead_a S A L c (a / 8) 1 m _ [(a / 8, N)] 1 hL (by omega) (by simp; omega) (w5.alloc (.cells #[.int .u64 ((a / 8 : Nat) : Int), .int .u64 (N : Int)] 48)) (hr5.ext ((Ext.refl w5).alloc _)) Hk.out).mono ?_
    rintro e w7 ⟨u, rfl, hown, hE⟩; obtain ⟨A4, c4, rfl, hr4⟩ := own_row hown; have hE7 := hEw.trans (((Ext.refl w5).alloc _).trans hE); have hW7 := ext_blk hE7; have hz0 := (cell_of_row w7 _ 0 _ _ _ hW7).trans rfl; have hz1 := (cell_of_row w7 _ 1 _ _ _ hW7).trans rfl; have hf0 := frozen_of_row w7 _ 0 _ _ hW7; have hf1 := frozen_of_row w7 _ 1 _ _ hW7; have Hown := Lib.hid hown; have HE := Lib.hid ((((Ext.refl w).alloc _).alloc _).trans hE7); clear hown hE hr4 hE7; go_wp2; (try simp only [Exit.inBlock, Exit.then]); refine bodyPost_ret (results_two rfl _ _ _ _ _ _ _ rfl (set_two hW7 _ _) rfl Try.underlying25 (by kernel_rfl)) rfl ?_; exact ⟨_, rfl, (by rw [Hst.out]; exact own_set (w := w) (w' := w7) (by rw [World.size_alloc]; omega) Hown.out _ _), ext_set HE.out _ _⟩
end Go.Proofs.Ytcodgmahegofjaa
