/- Package set: first, Same, Right, Find. -/
import Derived.Test.YtlhoedpencmikaaGreatDoorGthir
import Derived.Test.YtlhoedpencmikaaGreatDoorGtwel
namespace Go.Proofs.YtlhoedpencmikaaGreatDoor
open Go.ChangeShapes Go.WideShapes Go.ChangeAt Go.RowKit
set_option linter.unusedVariables false
set_option linter.unusedSimpArgs false
set_option maxRecDepth 10000

/-- both tables lie in their variables -/
def Lays (w : World) : Prop := Siz w ∧ Tous w
theorem Lays.ext {w w' : World} (h : Lays w) (hE : Ext w w') : Lays w' := ⟨h.1.ext hE, h.2.ext hE⟩
theorem sameE_eq (e f : En) : sameE e f = (e.v && (f.v && ((e.l == f.l) && ((e.vp == f.vp) && (e.g || (f.g || (e.n == f.n))))))) := by unfold sameE; rfl
theorem nat_beq (a b : Nat) : ((a : Int) == (b : Int)) = (a == b) := by rw [Bool.eq_iff_iff, beq_iff_eq, beq_iff_eq]; omega
/-- an element of the array, by its place -/
theorem index_ws (s : Ws) {k : Nat} (hk : k < 4) (w : World) : (Instr.index 67 (.agg (wsC s)) (.int .i64 (k : Int))).run Tryz.prog w = .ok (.agg (enC (s.at k))) w := by
  have h := ws_part (w := w) s hk
  have hi := en_info (s.at k)
  rw [enC_size] at hi
  cases hq : Tryz.prog.info? 66 with
  | none => rw [hq] at hi; cases hi
  | some i =>
    rw [hq] at hi
    have hs : i.size = 11 := by simpa using hi
    simp [Instr.index, go_sem, run_sizeOf w hq]
    have he := wsC_at s hk
    rw [enC_size] at he
    rw [if_pos hk, show Tryz.prog.cellsOf 66 = 11 by kernel_rfl, he]
theorem tup_ib {a b : Int} {x y : Bool} (h : a = b) (k : x = y) : Ending.returned (.tuple #[.int .i64 a, .bool x]) = .returned (.tuple #[.int .i64 b, .bool y]) := by rw [h, k]
set_option maxRecDepth 100000 in
set_option maxHeartbeats 1000000 in
/-- the least way of whose entry the closure says so -/
theorem first13_c (s : Ws) (F : Nat) (held : Array Value) (p : En → Bool) (w : World) (eg : ∀ args w, (callFunc F args).run Tryz.prog w = .ok (.enter F args) w)
    (hF : ∀ k, k < 4 → ∀ w', Ext w w' → Calls Tryz.prog F (#[.agg (enC (s.at k))] ++ held) w' fun e w'' => e = .returned (.bool (p (s.at k))) ∧ Ext w' w'') :
    Calls Tryz.prog 117 #[.agg (wsC s), .func (.func F) #[] held] w fun e w' => e = .returned (.tuple #[.int .i64 ((fiW p s : Nat) : Int), .bool (fbW p s)]) ∧ Ext w w' := by
  have hb := Blk.new w 67 (wsC s)
  have HE := Lib.hid ((Ext.refl w).alloc (.cells (wsC s) 67))
  have HF := Lib.hid hF
  clear hF
  go_enter Tryz.func117, Tryz.ntmps117
  go_wp2_with (refine wpList_load_blk (by rfl) 67 _ rfl rfl (by with_reducible assumption) Tryz.underlying67 rfl (by kernel_rfl) ?_)
  go_loopw [9] (fun i wr => ∃ k : Nat, k ≤ 4 ∧ i = .int .i64 k ∧ Hid (∀ j, j < k → p (s.at j) = false) ∧ Ext w wr) (fun i _ => (4 - intOf i).toNat)
  case atStart => exact ⟨0, by omega, rfl, Lib.hid (fun j hj => absurd hj (by omega)), HE.out⟩
  case round =>
    clear hb HE
    obtain ⟨k, hk, rfl, I, hE⟩ := hrel
    have HE := Lib.hid hE
    clear hE
    by_cases hlt : k < 4
    · have hd : decide ((k : Int) < 4) = true := by simp; omega
      have hix := index_ws s hlt
      have hcall := HF.out k hlt
      have HK := fi_hit (p := p) (s := s) hlt I.out
      have IK : p (s.at k) = false → Hid (∀ j, j < k + 1 → p (s.at j) = false) := fun h => Lib.hid fun j hj => by
        rcases Nat.lt_or_ge j k with h1 | h1
        · exact I.out j h1
        · obtain rfl : j = k := by omega
          exact h
      clear I hk
      generalize s.at k = e at hix hcall HK IK
      have h1 := Blk.new wr 66 (enC e)
      have HE2 := Lib.hid (HE.out.alloc (.cells (enC e) 66))
      have hcl := hcall _ HE2.out
      clear HE hcall
      generalize p e = B at hcl HK IK
      go_wp2_with (first | (refine wpList_store_new rfl 66 _ _ rfl (enC _) _ _ rfl rfl (en_info _) (by simp [enC_size]) (enC_one _) ?_) | (refine wpList_load_blk (by rfl) 66 _ rfl rfl h1 Tryz.underlying66 rfl (by kernel_rfl) ?_))
      refine hcl.mono ?_
      rintro e1 w' ⟨rfl, hE⟩
      replace HE2 := Lib.hid (HE2.out.trans hE)
      clear h1 hcl hE
      cases B
      · have I2 := IK rfl
        clear IK HK hix
        go_wp2
        go_roundw
        case rel => exact ⟨k + 1, by omega, by go_num, I2, HE2.out⟩
        case measure => simp [intOf]; omega
      · obtain ⟨K1, K2⟩ := HK rfl
        have HK1 := Lib.hid K1
        have HK2 := Lib.hid K2
        clear IK HK hix K1 K2
        go_wp2
        go_ret2
        exact ⟨tup_ib (by rw [HK1.out]) HK2.out.symm, HE2.out⟩
    · obtain rfl : k = 4 := by omega
      have hd : decide ((4 : Int) < 4) = false := by decide
      have HN := fi_none (p := p) (s := s) I.out
      go_wp2
      go_ret2
      exact ⟨tup_ib (by rw [HN.1]; (rfl)) HN.2.symm, HE.out⟩

set_option maxHeartbeats 2000000 in
theorem same13_c (e f : En) (w : World) :
    Calls Tryz.prog 99 #[.agg (enC e), .agg (enC f)] w fun r w' => r = .returned (.bool (sameE e f)) ∧ Ext w w' := by
  obtain ⟨h1, h2⟩ := blk_two (Ext.refl ((w.alloc (.cells (enC e) 66)).alloc (.cells (enC f) 66)))
  have HE := Lib.hid (((Ext.refl w).alloc (.cells (enC e) 66)).alloc (.cells (enC f) 66))
  have hq := sameE_eq e f
  have x0 := h1.en_v
  have x1 := h1.en_n
  have x2 := h1.en_g
  have x3 := h1.en_l
  have x4 := h1.en_vp
  have y0 := h2.en_v
  have y1 := h2.en_n
  have y2 := h2.en_g
  have y3 := h2.en_l
  have y4 := h2.en_vp
  have b1 := nat_beq e.n f.n
  have b4 := nat_beq e.vp f.vp
  rw [hq]
  clear hq h1 h2
  generalize e.v = v1 at *
  generalize f.v = v2 at *
  generalize e.g = g1 at *
  generalize f.g = g2 at *
  generalize (e.n == f.n) = t1 at *
  generalize (e.vp == f.vp) = t4 at *
  obtain ⟨t3, b3⟩ : ∃ t, (e.l == f.l) = t := ⟨_, rfl⟩
  rw [b3]
  generalize e.n = n1 at *
  generalize f.n = n2 at *
  generalize e.l = l1 at *
  generalize f.l = l2 at *
  generalize e.vp = p1 at *
  generalize f.vp = p2 at *
  cases g1 <;> cases g2
  all_goals
    cases v1
    · skip
      go_enter Tryz.func99, Tryz.ntmps99
      go_wp2
      go_ret
      refine ⟨?_, HE.out⟩
      simp
    cases v2
    · skip
      go_enter Tryz.func99, Tryz.ntmps99
      go_wp2
      go_ret
      refine ⟨?_, HE.out⟩
      simp
    cases t3
    · skip
      go_enter Tryz.func99, Tryz.ntmps99
      go_wp2
      go_ret
      refine ⟨?_, HE.out⟩
      simp
    cases t4
    · skip
      go_enter Tryz.func99, Tryz.ntmps99
      go_wp2
      go_ret
      refine ⟨?_, HE.out⟩
      simp
    · skip
      go_enter Tryz.func99, Tryz.ntmps99
      go_wp2
      go_ret
      refine ⟨?_, HE.out⟩
      simp
theorem right1_c (e : En) (he : e.ok) (w : World) (hT : Siz w) :
    Calls Tryz.prog 118 #[.agg (enC e)] w fun r w' => r = .returned (.bool (!mayE e)) ∧ Ext w w' := by
  have h1 := Blk.new w 66 (enC e)
  have HE := Lib.hid ((Ext.refl w).alloc (.cells (enC e) 66))
  have hm := fun w h => may12_c e he w h
  generalize mayE e = B at hm ⊢
  go_enter Tryz.func118, Tryz.ntmps118
  go_wp2_with ((refine wpList_load_blk (by rfl) 66 _ rfl rfl h1 Tryz.underlying66 rfl (by kernel_rfl) ?_)); refine (hm _ (hT.ext HE.out)).mono ?_; rintro e w' ⟨rfl, hE⟩; replace h1 := h1.ext hE; (replace HE := Lib.hid (HE.out.trans hE))
  clear hE hm
  go_wp2
  go_ret
  exact ⟨rfl, HE.out⟩
theorem right13_c (s : St) (hs : s.ok) (w : World) (hT : Lays w) :
    Calls Tryz.prog 73 #[.agg (stC s)] w fun r w' => r = .returned (.bool (rightS s)) ∧ Ext w w' := by
  have h1 := Blk.new w 69 (stC s)
  have HE := Lib.hid ((Ext.refl w).alloc (.cells (stC s) 69))
  have HT := Lib.hid (hT.1.ext HE.out)
  clear hT
  have hf := fun w (h : Siz w) => first13_c s.ws 118 #[] (fun e => !mayE e) w (fun args w => run_callFunc Tryz.func118 (by kernel_rfl) (by kernel_rfl) args w)
    (fun k hk w' hE => right1_c (s.ws.at k) (at_ok hs.1 hk) w' (h.ext hE))
  have hr := right_fb s
  generalize fiW (fun e => !mayE e) s.ws = i at hf
  generalize fbW (fun e => !mayE e) s.ws = B at hf hr
  have hi := fun w => is11_c s.t w
  obtain ⟨d, hd⟩ : ∃ d, decide ((s.t : Int) < 8) = d := ⟨_, rfl⟩
  rw [hd] at hi hr
  clear hd
  rw [← hr]
  clear hr
  have x44 := h1.st_t
  cases d
  all_goals
    go_enter Tryz.func73, Tryz.ntmps73
    go_wp2_with ((refine wpList_load_part (by rfl) 67 _ rfl rfl h1 (stC_ws s) Tryz.underlying67 rfl (ws_info _) ?_)); refine (hf _ HT.out).mono ?_; rintro e w' ⟨rfl, hE⟩; replace h1 := h1.ext hE; replace HT := Lib.hid (HT.out.ext hE); (replace HE := Lib.hid (HE.out.trans hE))
    clear hE hf
    replace x44 := h1.st_t
    go_wp2_with fail
    refine (hi _).mono ?_
    rintro e w2 ⟨rfl, rfl⟩
    go_wp2
    go_ret
    exact ⟨by simp, HE.out⟩
end Go.Proofs.YtlhoedpencmikaaGreatDoor
/- Package set: Find, Use, Drop, place, Put. -/
namespace Go.Proofs.YtlhoedpencmikaaGreatDoor
open Go.ChangeShapes Go.WideShapes Go.ChangeAt Go.RowKit
set_option linter.unusedVariables false
set_option linter.unusedSimpArgs false
set_option maxRecDepth 10000

theorem hitE_eq (n a l : Int) (e : En) : hitE n a l e = ((e.l == l) && matE e n a) := by unfold hitE; rfl
theorem empty_eq (e : En) : emptyE e = !e.v := by unfold emptyE; rfl
theorem sfind1_c (e : En) (he : e.v = true → 0 ≤ e.l ∧ e.l ≤ 2) (n a l : Int) (n0 : 0 ≤ n) (n1 : n < 18446744073709551616) (a0 : 0 ≤ a) (a1 : a < 18446744073709551616) (g1 g2 g3 : Nat) (w : World) (hT : Siz w)
    (c1 : w.cell? ⟨g1, 0, none⟩ = some (.int .i64 l)) (c2 : w.cell? ⟨g2, 0, none⟩ = some (.int .u64 n)) (c3 : w.cell? ⟨g3, 0, none⟩ = some (.int .u64 a)) :
    Calls Tryz.prog 155 #[.agg (enC e), .pointer (some ⟨g1, 0, none⟩), .pointer (some ⟨g2, 0, none⟩), .pointer (some ⟨g3, 0, none⟩)] w fun r w' => r = .returned (.bool (hitE n a l e)) ∧ Ext w w' := by
  have h1 := Blk.new w 66 (enC e)
  have HE := Lib.hid ((Ext.refl w).alloc (.cells (enC e) 66))
  replace c1 := ext_cell HE.out c1
  replace c2 := ext_cell HE.out c2
  replace c3 := ext_cell HE.out c3
  have hm := fun w h => matches_c e he n a n0 n1 a0 a1 w h
  rw [hitE_eq]
  generalize matE e n a = B at hm ⊢
  have x3 := h1.en_l
  obtain ⟨t, ht⟩ : ∃ t, (e.l == l) = t := ⟨_, rfl⟩
  rw [ht]
  cases t
  · go_enter Tryz.func155, Tryz.ntmps155
    go_wp2
    go_ret
    exact ⟨rfl, HE.out⟩
  · go_enter Tryz.func155, Tryz.ntmps155
    go_wp2_with ((refine wpList_load_blk (by rfl) 66 _ rfl rfl h1 Tryz.underlying66 rfl (by kernel_rfl) ?_)); refine (hm _ (hT.ext HE.out)).mono ?_; rintro e w' ⟨rfl, hE⟩; replace h1 := h1.ext hE; (replace HE := Lib.hid (HE.out.trans hE))
    clear hE hm
    go_wp2
    go_ret
    exact ⟨by simp, HE.out⟩
theorem find13_c (s : St) (hs : ∀ k, k < 4 → (s.ws.at k).v = true → 0 ≤ (s.ws.at k).l ∧ (s.ws.at k).l ≤ 2) (n a l : Int) (n0 : 0 ≤ n) (n1 : n < 18446744073709551616) (a0 : 0 ≤ a) (a1 : a < 18446744073709551616) (w : World) (hT : Lays w) :
    Calls Tryz.prog 150 #[.agg (stC s), .int .u64 n, .int .u64 a, .int .i64 l] w fun r w' => r = .returned (.tuple #[.int .i64 ((fiW (hitE n a l) s.ws : Nat) : Int), .bool (fbW (hitE n a l) s.ws)]) ∧ Ext w w' := by
  obtain ⟨W0, hW⟩ : ∃ W0, W0 = (((w.alloc (.cells (stC s) 69)).alloc (.cells #[.int .u64 n] 25)).alloc (.cells #[.int .u64 a] 25)).alloc (.cells #[.int .i64 l] 3) := ⟨_, rfl⟩
  have HE : Hid (Ext w W0) := Lib.hid (by rw [hW]; exact ((((Ext.refl w).alloc _).alloc _).alloc _).alloc _)
  have h1 : Blk W0 w.heap.size 69 (stC s) := by rw [hW]; exact (((Blk.new w _ _).alloc _).alloc _).alloc _
  have c2 : W0.cell? ⟨w.heap.size + 1, 0, none⟩ = some (.int .u64 n) := by rw [hW]; exact ((((blk_at (by simp)).alloc _).alloc _).cell 0).trans rfl
  have c3 : W0.cell? ⟨w.heap.size + 2, 0, none⟩ = some (.int .u64 a) := by rw [hW]; exact (((blk_at (by simp)).alloc _).cell 0).trans rfl
  have c1 : W0.cell? ⟨w.heap.size + 3, 0, none⟩ = some (.int .i64 l) := by rw [hW]; exact ((blk_at (by simp)).cell 0).trans rfl
  have hT0 := hT.1.ext HE.out
  have hf := first13_c s.ws 155 #[.pointer (some ⟨w.heap.size + 3, 0, none⟩), .pointer (some ⟨w.heap.size + 1, 0, none⟩), .pointer (some ⟨w.heap.size + 2, 0, none⟩)] (hitE n a l) W0 (fun args w => run_callFunc Tryz.func155 (by kernel_rfl) (by kernel_rfl) args w)
    (fun k hk w' hE => sfind1_c (s.ws.at k) (hs k hk) n a l n0 n1 a0 a1 _ _ _ w' (hT0.ext hE) (ext_cell hE c1) (ext_cell hE c2) (ext_cell hE c3))
  generalize fiW (hitE n a l) s.ws = i at hf ⊢
  generalize fbW (hitE n a l) s.ws = B at hf ⊢
  clear c1 c2 c3 hT hT0 hs
  have hW' := hW
  have HW := Lib.hid hW
  rw [hW] at h1
  clear hW hW'
  go_enter Tryz.func150, Tryz.ntmps150
  go_wp2_with (refine wpList_load_part (by rfl) 67 _ rfl rfl h1 (stC_ws s) Tryz.underlying67 rfl (ws_info _) ?_)
  rw [← HW.out]
  refine hf.mono ?_
  rintro e w' ⟨rfl, hE⟩
  replace HE := Lib.hid (HE.out.trans hE)
  clear hE hf h1
  go_wp2
  go_ret2
  exact ⟨rfl, HE.out⟩
theorem is13_c (v : Int) (w : World) :
    Calls Tryz.prog 114 #[.int .i64 v] w fun r w' => r = .returned (.bool (decide (0 ≤ v) && decide (v < 4))) ∧ w = w' := by
  cases h : decide (0 ≤ v)
  all_goals
    go_enter Tryz.func114, Tryz.ntmps114
    go_wp2
    go_ret
    exact ⟨by simp, rfl⟩
theorem use13_c (s : St) (ht : s.t < 8) (v : Nat) (hv : v < 4) (w : World) (hT : Lays w) :
    Calls Tryz.prog 101 #[.agg (stC s), .int .i64 (v : Int)] w fun r w' => r = .returned (.agg (stC ⟨s.ws, toN s.t v⟩)) ∧ Ext w w' := by
  have hT0 := hT.2
  have hu := fun w h => tou_c s.t v ht hv w h
  have HS := stC_set_t s (toN s.t v) rfl
  generalize toN s.t v = x at *
  obtain ⟨W0, hW⟩ : ∃ W0, W0 = (w.alloc (.cells (stC s) 69)).alloc (.cells #[.bool false, .int .u64 0, .bool false, .int .i64 0, .int .u64 0, .int .u64 0, .bool false, .bool false, .bool false, .bool false, .bool false, .bool false, .int .u64 0, .bool false, .int .i64 0, .int .u64 0, .int .u64 0, .bool false, .bool false, .bool false, .bool false, .bool false, .bool false, .int .u64 0, .bool false, .int .i64 0, .int .u64 0, .int .u64 0, .bool false, .bool false, .bool false, .bool false, .bool false, .bool false, .int .u64 0, .bool false, .int .i64 0, .int .u64 0, .int .u64 0, .bool false, .bool false, .bool false, .bool false, .bool false, .int .u8 0] 69) := ⟨_, rfl⟩
  have HE : Hid (Ext w W0) := Lib.hid (by rw [hW]; exact ((Ext.refl w).alloc _).alloc _)
  have h1 : Blk W0 w.heap.size 69 (stC s) := by rw [hW]; exact (Blk.new w _ _).alloc _
  have h2 : Blk W0 (w.heap.size + 1) 69 #[.bool false, .int .u64 0, .bool false, .int .i64 0, .int .u64 0, .int .u64 0, .bool false, .bool false, .bool false, .bool false, .bool false, .bool false, .int .u64 0, .bool false, .int .i64 0, .int .u64 0, .int .u64 0, .bool false, .bool false, .bool false, .bool false, .bool false, .bool false, .int .u64 0, .bool false, .int .i64 0, .int .u64 0, .int .u64 0, .bool false, .bool false, .bool false, .bool false, .bool false, .bool false, .int .u64 0, .bool false, .int .i64 0, .int .u64 0, .int .u64 0, .bool false, .bool false, .bool false, .bool false, .bool false, .int .u8 0] := by rw [hW]; exact blk_at (by simp)
  have HW := Lib.hid hW
  have x44 := h1.st_t
  rw [hW] at x44
  have HT := Lib.hid (hT0.ext HE.out)
  clear hW hT hT0
  go_enter Tryz.func101, Tryz.ntmps101
  go_wp2_with fail
  rw [← HW.out]
  refine (hu _ HT.out).mono ?_
  rintro e w' ⟨rfl, hE⟩
  replace h1 := h1.ext hE; replace h2 := h2.ext hE; replace HT := Lib.hid (HT.out.ext hE); (replace HE := Lib.hid (HE.out.trans hE))
  clear hE hu HW HT x44
  have h3 := h1.row (stC ⟨s.ws, x⟩)
  have h4 := h2.apart (show w.heap.size + 1 ≠ w.heap.size by omega) (stC ⟨s.ws, x⟩)
  go_wp2_with (first | (refine wpList_store_cell rfl 5 _ _ rfl rfl rfl h1 (by simp [stC_size]) (HS) (by kernel_rfl) rfl rfl ?_) | (refine wpList_load_blk (by rfl) 69 _ rfl rfl h3 Tryz.underlying69 rfl (by kernel_rfl) ?_) | (refine wpList_store_row rfl 69 _ _ rfl _ (stC _) rfl rfl _ _ h4 (st_info _) (by simp [stC_size]) (stC_one _) ?_))
  refine bodyPost_ret (results_cell_row rfl _ _ _ _ _ _ _ rfl ((h4.row _)) Tryz.underlying69 rfl (st_info _)) rfl ?_
  exact ⟨rfl, (HE.out.row (Nat.le_refl _) _).row (by omega) _⟩
theorem drop13_c (s : St) (v : Nat) (hv : v < 4) (w : World) :
    Calls Tryz.prog 70 #[.agg (stC s), .int .i64 (v : Int)] w fun r w' => r = .returned (.agg (stC (s.put v e0))) ∧ Ext w w' := by
  have his := fun w => is13_c v w
  rw [show (decide (0 ≤ (v : Int)) && decide ((v : Int) < 4)) = true by simp; omega] at his
  have HS := stC_put s hv e0
  have HB : v * 11 + (enC e0).size ≤ (stC s).size := by rw [stC_size, enC_size]; omega
  obtain ⟨W0, hW⟩ : ∃ W0, W0 = (w.alloc (.cells (stC s) 69)).alloc (.cells #[.bool false, .int .u64 0, .bool false, .int .i64 0, .int .u64 0, .int .u64 0, .bool false, .bool false, .bool false, .bool false, .bool false, .bool false, .int .u64 0, .bool false, .int .i64 0, .int .u64 0, .int .u64 0, .bool false, .bool false, .bool false, .bool false, .bool false, .bool false, .int .u64 0, .bool false, .int .i64 0, .int .u64 0, .int .u64 0, .bool false, .bool false, .bool false, .bool false, .bool false, .bool false, .int .u64 0, .bool false, .int .i64 0, .int .u64 0, .int .u64 0, .bool false, .bool false, .bool false, .bool false, .bool false, .int .u8 0] 69) := ⟨_, rfl⟩
  have HE : Hid (Ext w W0) := Lib.hid (by rw [hW]; exact ((Ext.refl w).alloc _).alloc _)
  have h1 : Blk W0 w.heap.size 69 (stC s) := by rw [hW]; exact (Blk.new w _ _).alloc _
  have h2 : Blk W0 (w.heap.size + 1) 69 #[.bool false, .int .u64 0, .bool false, .int .i64 0, .int .u64 0, .int .u64 0, .bool false, .bool false, .bool false, .bool false, .bool false, .bool false, .int .u64 0, .bool false, .int .i64 0, .int .u64 0, .int .u64 0, .bool false, .bool false, .bool false, .bool false, .bool false, .bool false, .int .u64 0, .bool false, .int .i64 0, .int .u64 0, .int .u64 0, .bool false, .bool false, .bool false, .bool false, .bool false, .bool false, .int .u64 0, .bool false, .int .i64 0, .int .u64 0, .int .u64 0, .bool false, .bool false, .bool false, .bool false, .bool false, .int .u8 0] := by rw [hW]; exact blk_at (by simp)
  have HW := Lib.hid hW
  clear hW
  have hv0 : (v : Int) < 4 := by omega
  go_enter Tryz.func70, Tryz.ntmps70
  go_wp2_with fail
  rw [← HW.out]
  refine (his _).mono ?_
  rintro e w' ⟨rfl, rfl⟩
  clear his HW
  have h3 := h1.row (stC (s.put v e0))
  have h4 := h2.apart (show w.heap.size + 1 ≠ w.heap.size by omega) (stC (s.put v e0))
  go_wp2_with (first | (refine wpList_build_as (by rfl) rfl (e0_build) ?_) | (refine wpList_store_part rfl 66 _ _ rfl rfl rfl h1 (HB) (HS) (en_info _) (enC_one _) ?_) | (refine wpList_load_blk (by rfl) 69 _ rfl rfl h3 Tryz.underlying69 rfl (by kernel_rfl) ?_) | (refine wpList_store_row rfl 69 _ _ rfl _ (stC _) rfl rfl _ _ h4 (st_info _) (by simp [stC_size]) (stC_one _) ?_))
  refine bodyPost_ret (results_cell_row rfl _ _ _ _ _ _ _ rfl ((h4.row _)) Tryz.underlying69 rfl (st_info _)) rfl ?_
  exact ⟨rfl, (HE.out.row (Nat.le_refl _) _).row (by omega) _⟩
/-- the way that is to be filled next -/
def plS (v : Int) (s : St) : Nat := if 0 ≤ v ∧ v < 4 then v.toNat else if fbW emptyE s.ws then fiW emptyE s.ws else viN s.t
theorem way_pl (e : En) (v : Int) (s : St) : wayS e v s = plS v ⟨cutW e s.ws, s.t⟩ := by unfold wayS plS; rfl
theorem place1_c (e : En) (w : World) :
    Calls Tryz.prog 142 #[.agg (enC e)] w fun r w' => r = .returned (.bool (emptyE e)) ∧ Ext w w' := by
  have h1 := Blk.new w 66 (enC e)
  have HE := Lib.hid ((Ext.refl w).alloc (.cells (enC e) 66))
  have x0 := h1.en_v
  rw [empty_eq]
  go_enter Tryz.func142, Tryz.ntmps142
  go_wp2
  go_ret
  exact ⟨rfl, HE.out⟩
theorem place13_c (s : St) (ht : s.t < 8) (v : Int) (w : World) :
    Calls Tryz.prog 100 #[.agg (stC s), .int .i64 v] w fun r w' => r = .returned (.int .i64 ((plS v s : Nat) : Int)) ∧ Ext w w' := by
  have h1 := Blk.new w 69 (stC s)
  have HE := Lib.hid ((Ext.refl w).alloc (.cells (stC s) 69))
  have his := fun w => is13_c v w
  by_cases hv : 0 ≤ v ∧ v < 4
  · rw [show (decide (0 ≤ v) && decide (v < 4)) = true by simp; exact hv] at his
    have hp : ((plS v s : Nat) : Int) = v := by unfold plS; rw [if_pos hv]; omega
    rw [hp]
    go_enter Tryz.func100, Tryz.ntmps100
    go_wp2_with fail
    refine (his _).mono ?_
    rintro e w' ⟨rfl, rfl⟩
    go_wp2
    go_ret
    exact ⟨rfl, HE.out⟩
  · rw [show (decide (0 ≤ v) && decide (v < 4)) = false by simp; omega] at his
    have hf := fun w => first13_c s.ws 142 #[] emptyE w (fun args w => run_callFunc Tryz.func142 (by kernel_rfl) (by kernel_rfl) args w)
      (fun k hk w' hE => place1_c (s.ws.at k) w')
    have hp : plS v s = if fbW emptyE s.ws then fiW emptyE s.ws else viN s.t := by unfold plS; rw [if_neg hv]
    rw [hp]
    have hvi := fun w => vic_c s.t ht w
    generalize fiW emptyE s.ws = i at *
    generalize viN s.t = j at *
    clear hp hv
    cases hb : fbW emptyE s.ws
    all_goals
      rw [hb] at hf
      clear hb
      go_enter Tryz.func100, Tryz.ntmps100
      go_wp2_with fail
      refine (his _).mono ?_
      rintro e w' ⟨rfl, rfl⟩
      clear his
      go_wp2_with ((refine wpList_load_part (by rfl) 67 _ rfl rfl h1 (stC_ws s) Tryz.underlying67 rfl (ws_info _) ?_)); refine (hf _).mono ?_; rintro e w' ⟨rfl, hE⟩; replace h1 := h1.ext hE; (replace HE := Lib.hid (HE.out.trans hE))
      clear hE hf
    · have x44 := h1.st_t
      go_wp2_with fail
      refine (hvi _).mono ?_
      rintro e w2 ⟨rfl, rfl⟩
      go_wp2
      go_ret
      exact ⟨rfl, HE.out⟩
    · go_wp2
      go_ret
      exact ⟨rfl, HE.out⟩
set_option maxRecDepth 100000 in
set_option maxHeartbeats 2000000 in
theorem put13_c (s : St) (ht : s.t < 8) (e : En) (v : Int) (w : World) (hT : Lays w) :
    Calls Tryz.prog 56 #[.agg (stC s), .agg (enC e), .int .i64 v] w fun r w' => r = .returned (.tuple #[.agg (stC (putS e v s)), .int .i64 ((wayS e v s : Nat) : Int)]) ∧ Ext w w' := by
  obtain ⟨W0, hW⟩ : ∃ W0, W0 = ((w.alloc (.cells (stC s) 69)).alloc (.cells (enC e) 66)).alloc (.cells #[.bool false, .int .u64 0, .bool false, .int .i64 0, .int .u64 0, .int .u64 0, .bool false, .bool false, .bool false, .bool false, .bool false, .bool false, .int .u64 0, .bool false, .int .i64 0, .int .u64 0, .int .u64 0, .bool false, .bool false, .bool false, .bool false, .bool false, .bool false, .int .u64 0, .bool false, .int .i64 0, .int .u64 0, .int .u64 0, .bool false, .bool false, .bool false, .bool false, .bool false, .bool false, .int .u64 0, .bool false, .int .i64 0, .int .u64 0, .int .u64 0, .bool false, .bool false, .bool false, .bool false, .bool false, .int .u8 0] 69) := ⟨_, rfl⟩
  have HE : Hid (Ext w W0) := Lib.hid (by rw [hW]; exact (((Ext.refl w).alloc _).alloc _).alloc _)
  have h1 : Blk W0 w.heap.size 69 (stC s) := by rw [hW]; exact ((Blk.new w _ _).alloc _).alloc _
  have h2 : Blk W0 (w.heap.size + 1) 66 (enC e) := by rw [hW]; exact (blk_at (by simp)).alloc _
  have h3 : Blk W0 (w.heap.size + 2) 69 #[.bool false, .int .u64 0, .bool false, .int .i64 0, .int .u64 0, .int .u64 0, .bool false, .bool false, .bool false, .bool false, .bool false, .bool false, .int .u64 0, .bool false, .int .i64 0, .int .u64 0, .int .u64 0, .bool false, .bool false, .bool false, .bool false, .bool false, .bool false, .int .u64 0, .bool false, .int .i64 0, .int .u64 0, .int .u64 0, .bool false, .bool false, .bool false, .bool false, .bool false, .bool false, .int .u64 0, .bool false, .int .i64 0, .int .u64 0, .int .u64 0, .bool false, .bool false, .bool false, .bool false, .bool false, .int .u8 0] := by rw [hW]; exact blk_at (by simp)
  have HW := Lib.hid hW
  have h1W := h1
  rw [hW] at h1W
  have hsz : w.heap.size + 3 ≤ W0.heap.size := by rw [hW]; simp
  clear hW
  have HTW := Lib.hid hT
  clear hT
  go_enter Tryz.func56, Tryz.ntmps56
  go_wp2_with (refine wpList_load_part (by rfl) 67 _ rfl rfl h1W (stC_ws s) Tryz.underlying67 rfl (ws_info _) ?_)
  rw [← HW.out]
  clear HW h1W
  go_loopw [13] (fun i wr => ∃ k : Nat, k ≤ 4 ∧ i = .int .i64 k ∧ Blk wr w.heap.size 69 (stC ⟨dropK e s.ws k, s.t⟩) ∧ Blk wr (w.heap.size + 1) 66 (enC e) ∧ Blk wr (w.heap.size + 2) 69 #[.bool false, .int .u64 0, .bool false, .int .i64 0, .int .u64 0, .int .u64 0, .bool false, .bool false, .bool false, .bool false, .bool false, .bool false, .int .u64 0, .bool false, .int .i64 0, .int .u64 0, .int .u64 0, .bool false, .bool false, .bool false, .bool false, .bool false, .bool false, .int .u64 0, .bool false, .int .i64 0, .int .u64 0, .int .u64 0, .bool false, .bool false, .bool false, .bool false, .bool false, .bool false, .int .u64 0, .bool false, .int .i64 0, .int .u64 0, .int .u64 0, .bool false, .bool false, .bool false, .bool false, .bool false, .int .u8 0] ∧ w.heap.size + 3 ≤ wr.heap.size ∧ Ext w wr) (fun i _ => (4 - intOf i).toNat)
  case atStart => exact ⟨0, by omega, rfl, by rw [drop_none]; exact h1, h2, h3, hsz, HE.out⟩
  case round =>
    clear h1 h2 h3 hsz HE
    obtain ⟨k, hk, rfl, h1, h2, h3, hsz, hE⟩ := hrel
    have HE := Lib.hid hE
    clear hE
    by_cases hlt : k < 4
    · have hix := index_ws s.ws hlt
      have hd := @drop_yes e s.ws k
      have hn := @drop_no e s.ws k
      have hsm := fun w => same13_c e (s.ws.at k) w
      have hdr := fun w => drop13_c ⟨dropK e s.ws k, s.t⟩ k hlt w
      generalize s.ws.at k = f at *
      generalize sameE e f = B at *
      have h4 := Blk.new wr 66 (enC f)
      have hE := (Ext.refl wr).alloc (.cells (enC f) 66)
      replace h1 := h1.ext hE; replace h2 := h2.ext hE; replace h3 := h3.ext hE; (replace HE := Lib.hid (HE.out.trans hE))
      replace hsz := Nat.le_trans hsz hE.size
      clear hE
      go_wp2_with (first | (refine wpList_store_new rfl 66 _ _ rfl (enC _) _ _ rfl rfl (en_info _) (by simp [enC_size]) (enC_one _) ?_) | (refine wpList_load_blk (by rfl) 66 _ rfl rfl h4 Tryz.underlying66 rfl (by kernel_rfl) ?_) | (refine wpList_load_blk (by rfl) 66 _ rfl rfl h2 Tryz.underlying66 rfl (by kernel_rfl) ?_))
      refine (hsm _).mono ?_
      rintro e1 w' ⟨rfl, hE⟩
      replace h1 := h1.ext hE; replace h2 := h2.ext hE; replace h3 := h3.ext hE; replace h4 := h4.ext hE; (replace HE := Lib.hid (HE.out.trans hE))
      replace hsz := Nat.le_trans hsz hE.size
      clear hE hsm hix h4
      cases B
      · have hn1 := hn rfl
        rw [hn1] at h1
        clear hd hn hn1 hdr
        go_wp2
        go_roundw
        case rel => exact ⟨k + 1, by omega, by go_num, h1, h2, h3, hsz, HE.out⟩
        case measure => simp [intOf]; omega
      · have hd1 := hd rfl
        rw [show (⟨dropK e s.ws k, s.t⟩ : St).put k e0 = ⟨(dropK e s.ws k).put k e0, s.t⟩ from rfl, hd1] at hdr
        clear hd hn hd1
        go_wp2_with (refine wpList_load_blk (by rfl) 69 _ rfl rfl h1 Tryz.underlying69 rfl (by kernel_rfl) ?_)
        refine (hdr _).mono ?_
        rintro e2 w2 ⟨rfl, hE⟩
        replace h1 := h1.ext hE; replace h2 := h2.ext hE; replace h3 := h3.ext hE; (replace HE := Lib.hid (HE.out.trans hE))
        replace hsz := Nat.le_trans hsz hE.size
        clear hE hdr
        have h1b := h1.row (stC ⟨dropK e s.ws (k + 1), s.t⟩)
        have h2b := h2.apart (show w.heap.size + 1 ≠ w.heap.size by omega) (stC ⟨dropK e s.ws (k + 1), s.t⟩)
        have h3b := h3.apart (show w.heap.size + 2 ≠ w.heap.size by omega) (stC ⟨dropK e s.ws (k + 1), s.t⟩)
        have HE2 := Lib.hid (HE.out.row (Nat.le_refl _) (stC ⟨dropK e s.ws (k + 1), s.t⟩))
        have hsz2 : w.heap.size + 3 ≤ (w2.setRow w.heap.size (stC ⟨dropK e s.ws (k + 1), s.t⟩)).heap.size := by have := h3b.lt; omega
        clear h2 h3 HE hsz
        go_wp2_with (refine wpList_store_row rfl 69 _ _ rfl _ (stC _) rfl rfl _ _ h1 (st_info _) (by simp [stC_size]) (stC_one _) ?_)
        go_roundw
        case rel => exact ⟨k + 1, by omega, by go_num, h1b, h2b, h3b, hsz2, HE2.out⟩
        case measure => simp [intOf]; omega
    · obtain rfl : k = 4 := by omega
      rw [drop_cut] at h1
      have hpl := fun w => place13_c ⟨cutW e s.ws, s.t⟩ ht v w
      rw [← way_pl] at hpl
      have hwl := way_lt (e := e) (v := v) ht
      have hus := fun w h => use13_c ((⟨cutW e s.ws, s.t⟩ : St).put (wayS e v s) e) ht (wayS e v s) hwl w h
      rw [show (⟨((⟨cutW e s.ws, s.t⟩ : St).put (wayS e v s) e).ws, toN ((⟨cutW e s.ws, s.t⟩ : St).put (wayS e v s) e).t (wayS e v s)⟩ : St) = putS e v s from (putS_eq e v s).symm] at hus
      have HS := stC_put ⟨cutW e s.ws, s.t⟩ hwl e
      have HB : wayS e v s * 11 + (enC e).size ≤ (stC ⟨cutW e s.ws, s.t⟩).size := by rw [stC_size, enC_size]; omega
      generalize (⟨cutW e s.ws, s.t⟩ : St).put (wayS e v s) e = s2 at *
      generalize (⟨cutW e s.ws, s.t⟩ : St) = s1 at *
      generalize h3e : putS e v s = s3 at hus
      generalize hje : wayS e v s = j at *
      have H3 := Lib.hid h3e
      have HJ := Lib.hid hje
      clear h3e hje
      have hjz : (j : Int) < 4 := by omega
      go_wp2_with (refine wpList_load_blk (by rfl) 69 _ rfl rfl h1 Tryz.underlying69 rfl (by kernel_rfl) ?_)
      refine (hpl _).mono ?_
      rintro e1 w' ⟨rfl, hE⟩
      replace h1 := h1.ext hE; replace h2 := h2.ext hE; replace h3 := h3.ext hE; (replace HE := Lib.hid (HE.out.trans hE))
      clear hE hpl hsz
      have h1b := h1.row (stC s2)
      have h3b := h3.apart (show w.heap.size + 2 ≠ w.heap.size by omega) (stC s2)
      have HE2 := Lib.hid (HE.out.row (Nat.le_refl _) (stC s2))
      clear h3 HE
      go_wp2_with (first | (refine wpList_load_blk (by rfl) 66 _ rfl rfl h2 Tryz.underlying66 rfl (by kernel_rfl) ?_) | (refine wpList_store_part rfl 66 _ _ rfl rfl rfl h1 (HB) (HS) (en_info _) (enC_one _) ?_) | (refine wpList_load_blk (by rfl) 69 _ rfl rfl h1b Tryz.underlying69 rfl (by kernel_rfl) ?_))
      refine (hus _ (HTW.out.ext HE2.out)).mono ?_
      rintro e1 w2 ⟨rfl, hE⟩
      replace h3b := h3b.ext hE
      replace HE2 := Lib.hid (HE2.out.trans hE)
      clear hE hus h1 h1b h2 HS HB
      go_wp2_with (refine wpList_store_row rfl 69 _ _ rfl _ (stC _) rfl rfl _ _ h3b (st_info _) (by simp [stC_size]) (stC_one _) ?_)
      refine bodyPost_ret (results_c2 rfl _ _ _ _ _ _ rfl ((h3b.row _)) rfl Tryz.underlying69 (st_info _)) rfl ?_
      exact ⟨by rw [H3.out, HJ.out]; (rfl), HE2.out.row (by omega) _⟩
end Go.Proofs.YtlhoedpencmikaaGreatDoor
