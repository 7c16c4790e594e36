/- The document's answers for layer 13 (package atlasref13): Right, Same, Find, Use, Drop, Put, Unlike. -/
import Derived.Test.YtlimipjfdecbfaaDoorCthirb
import Derived.Test.YtlimipjfdecbfaaDoorRtwelb
namespace Go.Proofs.YtlimipjfdecbfaaDoor
open Go.ChangeShapes Go.WideShapes Go.ChangeAt Go.RowKit
set_option linter.unusedVariables false
set_option linter.unusedSimpArgs false
set_option maxRecDepth 10000

set_option maxHeartbeats 2000000 in
theorem rsame13_c (e f : En) (w : World) :
    Calls Tryd.prog 49 #[.agg (enC e), .agg (enC f)] w fun r w' => r = .returned (.bool (sameE e f)) ∧ Ext w w' := by
  obtain ⟨h1, h2⟩ := blk_two (Ext.refl ((w.alloc (.cells (enC e) 28)).alloc (.cells (enC f) 28)))
  have HE := Lib.hid (((Ext.refl w).alloc (.cells (enC e) 28)).alloc (.cells (enC f) 28))
  have hq := sameE_eq e f
  have x0 := h1.en_v
  have x1 := h1.en_n
  have x2 := h1.en_g
  have x3 := h1.en_l
  have x4 := h1.en_vp
  have y0 := h2.en_v
  have y1 := h2.en_n
  have y2 := h2.en_g
  have y3 := h2.en_l
  have y4 := h2.en_vp
  have b1 := nat_beq e.n f.n
  have b4 := nat_beq e.vp f.vp
  rw [hq]
  clear hq h1 h2
  generalize e.v = v1 at *
  generalize f.v = v2 at *
  generalize e.g = g1 at *
  generalize f.g = g2 at *
  generalize (e.n == f.n) = t1 at *
  generalize (e.vp == f.vp) = t4 at *
  obtain ⟨t3, b3⟩ : ∃ t, (e.l == f.l) = t := ⟨_, rfl⟩
  rw [b3]
  generalize e.n = n1 at *
  generalize f.n = n2 at *
  generalize e.l = l1 at *
  generalize f.l = l2 at *
  generalize e.vp = p1 at *
  generalize f.vp = p2 at *
  cases v1
  · skip
    go_enter Tryd.func49, Tryd.ntmps49
    go_wp2
    go_ret
    refine ⟨?_, HE.out⟩
    simp
  cases v2
  · skip
    go_enter Tryd.func49, Tryd.ntmps49
    go_wp2
    go_ret
    refine ⟨?_, HE.out⟩
    simp
  cases t3
  · skip
    go_enter Tryd.func49, Tryd.ntmps49
    go_wp2
    go_ret
    refine ⟨?_, HE.out⟩
    simp
  cases t4
  · skip
    go_enter Tryd.func49, Tryd.ntmps49
    go_wp2
    go_ret
    refine ⟨?_, HE.out⟩
    simp
  cases t1
  · cases g1
    · skip
      go_enter Tryd.func49, Tryd.ntmps49
      go_wp2
      go_ret
      refine ⟨?_, HE.out⟩
      simp
    · skip
      go_enter Tryd.func49, Tryd.ntmps49
      go_wp2
      go_ret
      refine ⟨?_, HE.out⟩
      simp
  · skip
    go_enter Tryd.func49, Tryd.ntmps49
    go_wp2
    go_ret
    refine ⟨?_, HE.out⟩
    simp

set_option maxRecDepth 100000 in
theorem rright13_c (s : St) (w : World) :
    Calls Tryd.prog 30 #[.agg (stC s)] w fun r w' => r = .returned (.bool (rightS s)) ∧ Ext w w' := by
  have h1 := Blk.new w 46 (stC s)
  have HE := Lib.hid ((Ext.refl w).alloc (.cells (stC s) 46))
  have hr := @right_yes s
  have hn := @right_no s
  go_enter Tryd.func30, Tryd.ntmps30
  go_wp2
  go_loopw [3] (fun i wr => ∃ k : Nat, k ≤ 4 ∧ i = .int .i64 k ∧ Hid (∀ j, j < k → mayE (s.ws.at j) = true) ∧ Blk wr w.heap.size 46 (stC s) ∧ Ext w wr) (fun i _ => (4 - intOf i).toNat)
  case atStart => exact ⟨0, by omega, rfl, Lib.hid (fun j hj => absurd hj (by omega)), h1, HE.out⟩
  case round =>
    clear h1 HE
    obtain ⟨k, hk, rfl, I, h1, hE⟩ := hrel
    have HE := Lib.hid hE
    clear hE
    by_cases hlt : k < 4
    · have hkz : (k : Int) < 4 := by omega
      have hm := fun w => rmay12_c (s.ws.at k) w
      have hat := stC_at s hlt
      have hnk := @hn k hlt
      have IK : mayE (s.ws.at k) = true → Hid (∀ j, j < k + 1 → mayE (s.ws.at j) = true) := fun h => Lib.hid fun j hj => by
        rcases Nat.lt_or_ge j k with h1 | h1
        · exact I.out j h1
        · obtain rfl : j = k := by omega
          exact h
      clear hr hn
      generalize s.ws.at k = e at *
      generalize mayE e = B at *
      go_wp2_with (refine wpList_load_part (by rfl) 28 _ rfl rfl h1 (hat) Tryd.underlying28 rfl (en_info _) ?_)
      refine (hm _).mono ?_
      rintro e1 w' ⟨rfl, hE⟩
      (try replace hm := hm.ext hE); (try replace h1 := h1.ext hE); (try replace HE := Lib.hid (HE.out.trans hE))
      clear hE hm hat
      cases B
      · have HZ := Lib.hid (hnk rfl)
        clear IK hnk
        go_wp2
        go_ret
        exact ⟨by rw [HZ.out]; rfl, HE.out⟩
      · have I2 := IK rfl
        clear IK hnk I
        go_wp2
        go_roundw
        case rel => exact ⟨k + 1, by omega, by go_num, I2, h1, HE.out⟩
        case measure => simp [intOf]; omega
    · obtain rfl : k = 4 := by omega
      have x44 := h1.st_t
      have HZ := Lib.hid (hr I.out)
      clear hr hn
      go_wp2
      go_ret
      exact ⟨by rw [← HZ.out]; rfl, HE.out⟩

set_option maxRecDepth 100000 in
theorem rfind13_c (s : St) (hs : ∀ k, k < 4 → mayE (s.ws.at k) = true) (n a l : Int) (n0 : 0 ≤ n) (n1 : n < 18446744073709551616) (ha : vaB a = true) (a0 : 0 ≤ a) (a1 : a < 18446744073709551616) (w : World) :
    Calls Tryd.prog 35 #[.agg (stC s), .int .u64 n, .int .u64 a, .int .i64 l] w fun r w' => r = .returned (.tuple #[.int .i64 ((fiW (hitE n a l) s.ws : Nat) : Int), .bool (fbW (hitE n a l) s.ws)]) ∧ Ext w w' := by
  have h1 := Blk.new w 46 (stC s)
  have HE := Lib.hid ((Ext.refl w).alloc (.cells (stC s) 46))
  go_enter Tryd.func35, Tryd.ntmps35
  go_wp2
  go_loopw [10] (fun i wr => ∃ k : Nat, k ≤ 4 ∧ i = .int .i64 k ∧ Hid (∀ j, j < k → hitE n a l (s.ws.at j) = false) ∧ Blk wr w.heap.size 46 (stC s) ∧ Ext w wr) (fun i _ => (4 - intOf i).toNat)
  case atStart => exact ⟨0, by omega, rfl, Lib.hid (fun j hj => absurd hj (by omega)), h1, HE.out⟩
  case round =>
    clear h1 HE
    obtain ⟨k, hk, rfl, I, h1, hE⟩ := hrel
    have HE := Lib.hid hE
    clear hE
    by_cases hlt : k < 4
    · have hkz : (k : Int) < 4 := by omega
      have hm := fun w => rmatches_c (s.ws.at k) (hs k hlt) n a n0 n1 ha a0 a1 w
      have hat := stC_at s hlt
      have x3 := h1.way hlt (i := 3) (by decide)
      rw [enC_l] at x3
      have HK := fi_hit (p := hitE n a l) (s := s.ws) hlt I.out
      have IK : hitE n a l (s.ws.at k) = false → Hid (∀ j, j < k + 1 → hitE n a l (s.ws.at j) = false) := fun h => Lib.hid fun j hj => by
        rcases Nat.lt_or_ge j k with h1 | h1
        · exact I.out j h1
        · obtain rfl : j = k := by omega
          exact h
      rw [hitE_eq] at HK IK
      clear I hs
      generalize s.ws.at k = e at *
      generalize matE e n a = B at *
      obtain ⟨t, ht⟩ : ∃ t, (e.l == l) = t := ⟨_, rfl⟩
      rw [ht] at HK IK
      cases t
      · have I2 := IK rfl
        clear IK HK hm
        go_wp2
        go_roundw
        case rel => exact ⟨k + 1, by omega, by go_num, I2, h1, HE.out⟩
        case measure => simp [intOf]; omega
      · go_wp2_with (refine wpList_load_part (by rfl) 28 _ rfl rfl h1 (hat) Tryd.underlying28 rfl (en_info _) ?_)
        refine (hm _).mono ?_
        rintro e1 w' ⟨rfl, hE⟩
        (try replace hm := hm.ext hE); (try replace h1 := h1.ext hE); (try replace HE := Lib.hid (HE.out.trans hE))
        clear hE hm hat
        cases B
        · have I2 := IK rfl
          clear IK HK
          go_wp2
          go_roundw
          case rel => exact ⟨k + 1, by omega, by go_num, I2, h1, HE.out⟩
          case measure => simp [intOf]; omega
        · obtain ⟨K1, K2⟩ := HK rfl
          have HK1 := Lib.hid K1
          have HK2 := Lib.hid K2
          clear IK HK K1 K2
          go_wp2
          go_ret2
          exact ⟨tup_ib (by rw [HK1.out]) HK2.out.symm, HE.out⟩
    · obtain rfl : k = 4 := by omega
      have HN := fi_none (p := hitE n a l) (s := s.ws) I.out
      go_wp2
      go_ret2
      exact ⟨tup_ib (by rw [HN.1]; first | rfl | simp) HN.2.symm, HE.out⟩

theorem ruse13_c (s : St) (ht : s.t < 8) (v : Nat) (hv : v < 4) (w : World) :
    Calls Tryd.prog 51 #[.agg (stC s), .int .i64 (v : Int)] w fun r w' => r = .returned (.agg (stC ⟨s.ws, toN s.t v⟩)) ∧ Ext w w' := by
  have hu := fun w => rtou_c s.t v ht hv w
  have HS := stC_set_t s (toN s.t v) rfl
  generalize toN s.t v = x at *
  obtain ⟨W0, hW⟩ : ∃ W0, W0 = (w.alloc (.cells (stC s) 46)).alloc (.cells #[.bool false, .int .u64 0, .bool false, .int .i64 0, .int .u64 0, .int .u64 0, .bool false, .bool false, .bool false, .bool false, .bool false, .bool false, .int .u64 0, .bool false, .int .i64 0, .int .u64 0, .int .u64 0, .bool false, .bool false, .bool false, .bool false, .bool false, .bool false, .int .u64 0, .bool false, .int .i64 0, .int .u64 0, .int .u64 0, .bool false, .bool false, .bool false, .bool false, .bool false, .bool false, .int .u64 0, .bool false, .int .i64 0, .int .u64 0, .int .u64 0, .bool false, .bool false, .bool false, .bool false, .bool false, .int .u8 0] 46) := ⟨_, rfl⟩
  have HE : Hid (Ext w W0) := Lib.hid (by rw [hW]; exact ((Ext.refl w).alloc _).alloc _)
  have h1 : Blk W0 w.heap.size 46 (stC s) := by rw [hW]; exact (Blk.new w _ _).alloc _
  have h2 : Blk W0 (w.heap.size + 1) 46 #[.bool false, .int .u64 0, .bool false, .int .i64 0, .int .u64 0, .int .u64 0, .bool false, .bool false, .bool false, .bool false, .bool false, .bool false, .int .u64 0, .bool false, .int .i64 0, .int .u64 0, .int .u64 0, .bool false, .bool false, .bool false, .bool false, .bool false, .bool false, .int .u64 0, .bool false, .int .i64 0, .int .u64 0, .int .u64 0, .bool false, .bool false, .bool false, .bool false, .bool false, .bool false, .int .u64 0, .bool false, .int .i64 0, .int .u64 0, .int .u64 0, .bool false, .bool false, .bool false, .bool false, .bool false, .int .u8 0] := by rw [hW]; exact blk_at (by simp)
  have HW := Lib.hid hW
  have x44 := h1.st_t
  rw [hW] at x44
  clear hW
  go_enter Tryd.func51, Tryd.ntmps51
  go_wp2_with fail
  rw [← HW.out]
  refine (hu _).mono ?_
  rintro e w' ⟨rfl, rfl⟩
  clear hu HW x44
  have h3 := h1.row (stC ⟨s.ws, x⟩)
  have h4 := h2.apart (show w.heap.size + 1 ≠ w.heap.size by omega) (stC ⟨s.ws, x⟩)
  go_wp2_with (first | (refine wpList_store_cell rfl 5 _ _ rfl rfl rfl h1 (by simp [stC_size]) (HS) (by kernel_rfl) rfl rfl ?_) | (refine wpList_load_blk (by rfl) 46 _ rfl rfl h3 Tryd.underlying46 rfl (by kernel_rfl) ?_) | (refine wpList_store_row rfl 46 _ _ rfl _ (stC _) rfl rfl _ _ h4 (st_info _) (by simp [stC_size]) (stC_one _) ?_))
  (try simp only [Exit.inBlock, Exit.then]); (try rw [Exit.noGoto_ret]); refine bodyPost_ret (results_cell_row rfl _ _ _ _ _ _ _ rfl ((h4.row _)) Tryd.underlying46 rfl (st_info _)) rfl ?_
  exact ⟨rfl, (HE.out.row (Nat.le_refl _) _).row (by omega) _⟩
end Go.Proofs.YtlimipjfdecbfaaDoor
