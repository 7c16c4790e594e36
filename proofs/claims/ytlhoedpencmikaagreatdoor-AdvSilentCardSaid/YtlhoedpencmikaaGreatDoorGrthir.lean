/- The document's answers for layer 13 (package atlasref13): Right, Same, Find, Use, Drop, Put, Unlike. -/
import Derived.Test.YtlhoedpencmikaaGreatDoorGcthir
import Derived.Test.YtlhoedpencmikaaGreatDoorGrtwel
namespace Go.Proofs.YtlhoedpencmikaaGreatDoor
open Go.ChangeShapes Go.WideShapes Go.ChangeAt Go.RowKit
set_option linter.unusedVariables false
set_option linter.unusedSimpArgs false
set_option maxRecDepth 10000

set_option maxHeartbeats 2000000 in
theorem rsame13_c (e f : En) (w : World) :
    Calls Tryz.prog 110 #[.agg (enC e), .agg (enC f)] w fun r w' => r = .returned (.bool (sameE e f)) ∧ Ext w w' := by
  obtain ⟨h1, h2⟩ := blk_two (Ext.refl ((w.alloc (.cells (enC e) 66)).alloc (.cells (enC f) 66)))
  have HE := Lib.hid (((Ext.refl w).alloc (.cells (enC e) 66)).alloc (.cells (enC f) 66))
  have hq := sameE_eq e f
  have x0 := h1.en_v
  have x1 := h1.en_n
  have x2 := h1.en_g
  have x3 := h1.en_l
  have x4 := h1.en_vp
  have y0 := h2.en_v
  have y1 := h2.en_n
  have y2 := h2.en_g
  have y3 := h2.en_l
  have y4 := h2.en_vp
  have b1 := nat_beq e.n f.n
  have b4 := nat_beq e.vp f.vp
  rw [hq]
  clear hq h1 h2
  generalize e.v = v1 at *
  generalize f.v = v2 at *
  generalize e.g = g1 at *
  generalize f.g = g2 at *
  generalize (e.n == f.n) = t1 at *
  generalize (e.vp == f.vp) = t4 at *
  obtain ⟨t3, b3⟩ : ∃ t, (e.l == f.l) = t := ⟨_, rfl⟩
  rw [b3]
  generalize e.n = n1 at *
  generalize f.n = n2 at *
  generalize e.l = l1 at *
  generalize f.l = l2 at *
  generalize e.vp = p1 at *
  generalize f.vp = p2 at *
  cases v1
  · skip
    go_enter Tryz.func110, Tryz.ntmps110
    go_wp2
    go_ret
    refine ⟨?_, HE.out⟩
    simp
  cases v2
  · skip
    go_enter Tryz.func110, Tryz.ntmps110
    go_wp2
    go_ret
    refine ⟨?_, HE.out⟩
    simp
  cases t3
  · skip
    go_enter Tryz.func110, Tryz.ntmps110
    go_wp2
    go_ret
    refine ⟨?_, HE.out⟩
    simp
  cases t4
  · skip
    go_enter Tryz.func110, Tryz.ntmps110
    go_wp2
    go_ret
    refine ⟨?_, HE.out⟩
    simp
  cases t1
  · cases g1
    · skip
      go_enter Tryz.func110, Tryz.ntmps110
      go_wp2
      go_ret
      refine ⟨?_, HE.out⟩
      simp
    · skip
      go_enter Tryz.func110, Tryz.ntmps110
      go_wp2
      go_ret
      refine ⟨?_, HE.out⟩
      simp
  · skip
    go_enter Tryz.func110, Tryz.ntmps110
    go_wp2
    go_ret
    refine ⟨?_, HE.out⟩
    simp

set_option maxRecDepth 100000 in
theorem rright13_c (s : St) (w : World) :
    Calls Tryz.prog 85 #[.agg (stC s)] w fun r w' => r = .returned (.bool (rightS s)) ∧ Ext w w' := by
  have h1 := Blk.new w 69 (stC s)
  have HE := Lib.hid ((Ext.refl w).alloc (.cells (stC s) 69))
  have hr := @right_yes s
  have hn := @right_no s
  go_enter Tryz.func85, Tryz.ntmps85
  go_wp2
  go_loopw [3] (fun i wr => ∃ k : Nat, k ≤ 4 ∧ i = .int .i64 k ∧ Hid (∀ j, j < k → mayE (s.ws.at j) = true) ∧ Blk wr w.heap.size 69 (stC s) ∧ Ext w wr) (fun i _ => (4 - intOf i).toNat)
  case atStart => exact ⟨0, by omega, rfl, Lib.hid (fun j hj => absurd hj (by omega)), h1, HE.out⟩
  case round =>
    clear h1 HE
    obtain ⟨k, hk, rfl, I, h1, hE⟩ := hrel
    have HE := Lib.hid hE
    clear hE
    by_cases hlt : k < 4
    · have hkz : (k : Int) < 4 := by omega
      have hm := fun w => rmay12_c (s.ws.at k) w
      have hat := stC_at s hlt
      have hnk := @hn k hlt
      have IK : mayE (s.ws.at k) = true → Hid (∀ j, j < k + 1 → mayE (s.ws.at j) = true) := fun h => Lib.hid fun j hj => by
        rcases Nat.lt_or_ge j k with h1 | h1
        · exact I.out j h1
        · obtain rfl : j = k := by omega
          exact h
      clear hr hn
      generalize s.ws.at k = e at *
      generalize mayE e = B at *
      go_wp2_with (refine wpList_load_part (by rfl) 66 _ rfl rfl h1 (hat) Tryz.underlying66 rfl (en_info _) ?_)
      refine (hm _).mono ?_
      rintro e1 w' ⟨rfl, hE⟩
      replace h1 := h1.ext hE; (replace HE := Lib.hid (HE.out.trans hE))
      clear hE hm hat
      cases B
      · have HZ := Lib.hid (hnk rfl)
        clear IK hnk
        go_wp2
        go_ret
        exact ⟨by rw [HZ.out]; rfl, HE.out⟩
      · have I2 := IK rfl
        clear IK hnk I
        go_wp2
        go_roundw
        case rel => exact ⟨k + 1, by omega, by go_num, I2, h1, HE.out⟩
        case measure => simp [intOf]; omega
    · obtain rfl : k = 4 := by omega
      have x44 := h1.st_t
      have HZ := Lib.hid (hr I.out)
      clear hr hn
      go_wp2
      go_ret
      exact ⟨by rw [← HZ.out]; rfl, HE.out⟩


theorem ruse13_c (s : St) (ht : s.t < 8) (v : Nat) (hv : v < 4) (w : World) :
    Calls Tryz.prog 112 #[.agg (stC s), .int .i64 (v : Int)] w fun r w' => r = .returned (.agg (stC ⟨s.ws, toN s.t v⟩)) ∧ Ext w w' := by
  have hu := fun w => rtou_c s.t v ht hv w
  have HS := stC_set_t s (toN s.t v) rfl
  generalize toN s.t v = x at *
  obtain ⟨W0, hW⟩ : ∃ W0, W0 = (w.alloc (.cells (stC s) 69)).alloc (.cells #[.bool false, .int .u64 0, .bool false, .int .i64 0, .int .u64 0, .int .u64 0, .bool false, .bool false, .bool false, .bool false, .bool false, .bool false, .int .u64 0, .bool false, .int .i64 0, .int .u64 0, .int .u64 0, .bool false, .bool false, .bool false, .bool false, .bool false, .bool false, .int .u64 0, .bool false, .int .i64 0, .int .u64 0, .int .u64 0, .bool false, .bool false, .bool false, .bool false, .bool false, .bool false, .int .u64 0, .bool false, .int .i64 0, .int .u64 0, .int .u64 0, .bool false, .bool false, .bool false, .bool false, .bool false, .int .u8 0] 69) := ⟨_, rfl⟩
  have HE : Hid (Ext w W0) := Lib.hid (by rw [hW]; exact ((Ext.refl w).alloc _).alloc _)
  have h1 : Blk W0 w.heap.size 69 (stC s) := by rw [hW]; exact (Blk.new w _ _).alloc _
  have h2 : Blk W0 (w.heap.size + 1) 69 #[.bool false, .int .u64 0, .bool false, .int .i64 0, .int .u64 0, .int .u64 0, .bool false, .bool false, .bool false, .bool false, .bool false, .bool false, .int .u64 0, .bool false, .int .i64 0, .int .u64 0, .int .u64 0, .bool false, .bool false, .bool false, .bool false, .bool false, .bool false, .int .u64 0, .bool false, .int .i64 0, .int .u64 0, .int .u64 0, .bool false, .bool false, .bool false, .bool false, .bool false, .bool false, .int .u64 0, .bool false, .int .i64 0, .int .u64 0, .int .u64 0, .bool false, .bool false, .bool false, .bool false, .bool false, .int .u8 0] := by rw [hW]; exact blk_at (by simp)
  have HW := Lib.hid hW
  have x44 := h1.st_t
  rw [hW] at x44
  clear hW
  go_enter Tryz.func112, Tryz.ntmps112
  go_wp2_with fail
  rw [← HW.out]
  refine (hu _).mono ?_
  rintro e w' ⟨rfl, rfl⟩
  clear hu HW x44
  have h3 := h1.row (stC ⟨s.ws, x⟩)
  have h4 := h2.apart (show w.heap.size + 1 ≠ w.heap.size by omega) (stC ⟨s.ws, x⟩)
  go_wp2_with (first | (refine wpList_store_cell rfl 5 _ _ rfl rfl rfl h1 (by simp [stC_size]) (HS) (by kernel_rfl) rfl rfl ?_) | (refine wpList_load_blk (by rfl) 69 _ rfl rfl h3 Tryz.underlying69 rfl (by kernel_rfl) ?_) | (refine wpList_store_row rfl 69 _ _ rfl _ (stC _) rfl rfl _ _ h4 (st_info _) (by simp [stC_size]) (stC_one _) ?_))
  (try simp only [Exit.inBlock, Exit.then]); (try rw [Exit.noGoto_ret]); refine bodyPost_ret (results_cell_row rfl _ _ _ _ _ _ _ rfl ((h4.row _)) Tryz.underlying69 rfl (st_info _)) rfl ?_
  exact ⟨rfl, (HE.out.row (Nat.le_refl _) _).row (by omega) _⟩
theorem rdrop13_c (s : St) (v : Nat) (hv : v < 4) (w : World) :
    Calls Tryz.prog 71 #[.agg (stC s), .int .i64 (v : Int)] w fun r w' => r = .returned (.agg (stC (s.put v e0))) ∧ Ext w w' := by
  have HS := stC_put s hv e0
  have HB : v * 11 + (enC e0).size ≤ (stC s).size := by rw [stC_size, enC_size]; omega
  have h1 := (Blk.new w 69 (stC s)).alloc (.cells #[.bool false, .int .u64 0, .bool false, .int .i64 0, .int .u64 0, .int .u64 0, .bool false, .bool false, .bool false, .bool false, .bool false, .bool false, .int .u64 0, .bool false, .int .i64 0, .int .u64 0, .int .u64 0, .bool false, .bool false, .bool false, .bool false, .bool false, .bool false, .int .u64 0, .bool false, .int .i64 0, .int .u64 0, .int .u64 0, .bool false, .bool false, .bool false, .bool false, .bool false, .bool false, .int .u64 0, .bool false, .int .i64 0, .int .u64 0, .int .u64 0, .bool false, .bool false, .bool false, .bool false, .bool false, .int .u8 0] 69)
  have h2 : Blk ((w.alloc (.cells (stC s) 69)).alloc (.cells #[.bool false, .int .u64 0, .bool false, .int .i64 0, .int .u64 0, .int .u64 0, .bool false, .bool false, .bool false, .bool false, .bool false, .bool false, .int .u64 0, .bool false, .int .i64 0, .int .u64 0, .int .u64 0, .bool false, .bool false, .bool false, .bool false, .bool false, .bool false, .int .u64 0, .bool false, .int .i64 0, .int .u64 0, .int .u64 0, .bool false, .bool false, .bool false, .bool false, .bool false, .bool false, .int .u64 0, .bool false, .int .i64 0, .int .u64 0, .int .u64 0, .bool false, .bool false, .bool false, .bool false, .bool false, .int .u8 0] 69)) (w.heap.size + 1) 69 #[.bool false, .int .u64 0, .bool false, .int .i64 0, .int .u64 0, .int .u64 0, .bool false, .bool false, .bool false, .bool false, .bool false, .bool false, .int .u64 0, .bool false, .int .i64 0, .int .u64 0, .int .u64 0, .bool false, .bool false, .bool false, .bool false, .bool false, .bool false, .int .u64 0, .bool false, .int .i64 0, .int .u64 0, .int .u64 0, .bool false, .bool false, .bool false, .bool false, .bool false, .bool false, .int .u64 0, .bool false, .int .i64 0, .int .u64 0, .int .u64 0, .bool false, .bool false, .bool false, .bool false, .bool false, .int .u8 0] := blk_at (by simp)
  have HE := Lib.hid (((Ext.refl w).alloc (.cells (stC s) 69)).alloc (.cells #[.bool false, .int .u64 0, .bool false, .int .i64 0, .int .u64 0, .int .u64 0, .bool false, .bool false, .bool false, .bool false, .bool false, .bool false, .int .u64 0, .bool false, .int .i64 0, .int .u64 0, .int .u64 0, .bool false, .bool false, .bool false, .bool false, .bool false, .bool false, .int .u64 0, .bool false, .int .i64 0, .int .u64 0, .int .u64 0, .bool false, .bool false, .bool false, .bool false, .bool false, .bool false, .int .u64 0, .bool false, .int .i64 0, .int .u64 0, .int .u64 0, .bool false, .bool false, .bool false, .bool false, .bool false, .int .u8 0] 69))
  have hv0 : (v : Int) < 4 := by omega
  have h3 := h1.row (stC (s.put v e0))
  have h4 := h2.apart (show w.heap.size + 1 ≠ w.heap.size by omega) (stC (s.put v e0))
  go_enter Tryz.func71, Tryz.ntmps71
  go_wp2_with (first | (refine wpList_build_as (by rfl) rfl (e0_build) ?_) | (refine wpList_store_part rfl 66 _ _ rfl rfl rfl h1 (HB) (HS) (en_info _) (enC_one _) ?_) | (refine wpList_load_blk (by rfl) 69 _ rfl rfl h3 Tryz.underlying69 rfl (by kernel_rfl) ?_) | (refine wpList_store_row rfl 69 _ _ rfl _ (stC _) rfl rfl _ _ h4 (st_info _) (by simp [stC_size]) (stC_one _) ?_))
  (try simp only [Exit.inBlock, Exit.then]); (try rw [Exit.noGoto_ret]); refine bodyPost_ret (results_cell_row rfl _ _ _ _ _ _ _ rfl ((h4.row _)) Tryz.underlying69 rfl (st_info _)) rfl ?_
  exact ⟨rfl, (HE.out.row (Nat.le_refl _) _).row (by omega) _⟩
end Go.Proofs.YtlhoedpencmikaaGreatDoor
/- The document's Put and Unlike of layer 13. -/
namespace Go.Proofs.YtlhoedpencmikaaGreatDoor
open Go.ChangeShapes Go.WideShapes Go.ChangeAt Go.RowKit
set_option linter.unusedVariables false
set_option linter.unusedSimpArgs false
set_option maxRecDepth 10000

/-- behind the dropping of those of the same page, from the last way down to k -/
def dropD (e : En) (s : Ws) (k : Nat) : Ws := ⟨if k ≤ 0 ∧ sameE e s.a = true then e0 else s.a, if k ≤ 1 ∧ sameE e s.b = true then e0 else s.b, if k ≤ 2 ∧ sameE e s.c = true then e0 else s.c, if k ≤ 3 ∧ sameE e s.d = true then e0 else s.d⟩
theorem dropD_at (e : En) (s : Ws) (k : Nat) {j : Nat} (hj : j < 4) : (dropD e s k).at j = if k ≤ j ∧ sameE e (s.at j) = true then e0 else s.at j := by
  rcases k_four hj with rfl | rfl | rfl | rfl <;> rfl
theorem dropD_4 (e : En) (s : Ws) : dropD e s 4 = s := ws_ext fun j hj => by rw [dropD_at e s 4 hj, if_neg (by omega)]
theorem dropD_0 (e : En) (s : Ws) : dropD e s 0 = cutW e s := ws_ext fun j hj => by
  rw [dropD_at e s 0 hj, cut_at e s hj]
  cases sameE e (s.at j) <;> simp
theorem dropD_own (e : En) (s : Ws) {k : Nat} (hk : k < 4) : (dropD e s (k + 1)).at k = s.at k := by
  rw [dropD_at e s (k + 1) hk, if_neg (by omega)]
theorem dropD_cut (e : En) (s : Ws) {k : Nat} (hk : k < 4) : (dropD e s k).at k = (cutW e s).at k := by
  rw [dropD_at e s k hk, cut_at e s hk]
  cases sameE e (s.at k) <;> simp
theorem dropD_yes {e : En} {s : Ws} {k : Nat} (hk : k < 4) (h : sameE e (s.at k) = true) : (dropD e s (k + 1)).put k e0 = dropD e s k := ws_ext fun j hj => by
  rw [at_put hk hj, dropD_at e s k hj, dropD_at e s (k + 1) hj]
  by_cases hjk : j = k
  · subst hjk
    rw [if_pos rfl, if_pos ⟨Nat.le_refl _, h⟩]
  · rw [if_neg hjk]
    by_cases hl : k ≤ j ∧ sameE e (s.at j) = true
    · rw [if_pos hl, if_pos ⟨by omega, hl.2⟩]
    · rw [if_neg hl, if_neg (fun h2 => hl ⟨by omega, h2.2⟩)]
theorem dropD_no {e : En} {s : Ws} {k : Nat} (hk : k < 4) (h : sameE e (s.at k) = false) : dropD e s (k + 1) = dropD e s k := ws_ext fun j hj => by
  rw [dropD_at e s k hj, dropD_at e s (k + 1) hj]
  by_cases hjk : j = k
  · subst hjk
    rw [if_neg (by omega), if_neg (by rw [h]; simp)]
  · by_cases hl : k ≤ j ∧ sameE e (s.at j) = true
    · rw [if_pos hl, if_pos ⟨by omega, hl.2⟩]
    · rw [if_neg hl, if_neg (fun h2 => hl ⟨by omega, h2.2⟩)]
attribute [irreducible] dropD
/-- the least empty way from k on, or -1 -/
def AtSt (s : Ws) (k : Nat) (a : Int) : Prop := (a = -1 ∧ ∀ j, k ≤ j → j < 4 → emptyE (s.at j) = false) ∨ (∃ i : Nat, a = i ∧ k ≤ i ∧ i < 4 ∧ emptyE (s.at i) = true ∧ ∀ j, k ≤ j → j < i → emptyE (s.at j) = false)
theorem ats_4 (s : Ws) : AtSt s 4 (-1) := .inl ⟨rfl, fun j h1 h2 => by omega⟩
theorem ats_yes {s : Ws} {k : Nat} (hk : k < 4) (h : emptyE (s.at k) = true) : AtSt s k k := .inr ⟨k, rfl, Nat.le_refl _, hk, h, fun j h1 h2 => by omega⟩
theorem ats_no {s : Ws} {k : Nat} {a : Int} (hk : k < 4) (h : emptyE (s.at k) = false) (H : AtSt s (k + 1) a) : AtSt s k a := by
  rcases H with ⟨h1, h2⟩ | ⟨i, h1, h2, h3, h4, h5⟩
  · refine .inl ⟨h1, fun j hj hj4 => ?_⟩
    by_cases hjk : j = k
    · rw [hjk]; exact h
    · exact h2 j (by omega) hj4
  · refine .inr ⟨i, h1, by omega, h3, h4, fun j hj hj4 => ?_⟩
    by_cases hjk : j = k
    · rw [hjk]; exact h
    · exact h5 j (by omega) hj4
theorem ats_end {s : Ws} {a : Int} (H : AtSt s 0 a) : (a = -1 ∧ fbW emptyE s = false) ∨ (0 ≤ a ∧ fbW emptyE s = true ∧ a = (fiW emptyE s : Nat)) := by
  rcases H with ⟨h1, h2⟩ | ⟨i, h1, h2, h3, h4, h5⟩
  · exact .inl ⟨h1, (fi_none fun j hj => h2 j (by omega) hj).2⟩
  · have := fi_hit h3 (fun j hj => h5 j (by omega) hj) h4
    exact .inr ⟨by omega, this.2, by rw [this.1]; exact h1⟩
/-- the way that is filled, by the document's words -/
theorem way_ends {e : En} {v : Int} {s : St} {a : Int} (H : AtSt (cutW e s.ws) 0 a) :
    (a = -1 ∧ ((0 ≤ v ∧ v ≤ 3 ∧ v = (wayS e v s : Nat)) ∨ (¬ (0 ≤ v ∧ v ≤ 3) ∧ viN s.t = wayS e v s))) ∨ (0 ≤ a ∧ ((0 ≤ v ∧ v ≤ 3 ∧ v = (wayS e v s : Nat)) ∨ (¬ (0 ≤ v ∧ v ≤ 3) ∧ a = (wayS e v s : Nat)))) := by
  by_cases hv : 0 ≤ v ∧ v ≤ 3
  · have := way_vic (e := e) (s := s) hv.1 (show v < 4 by omega)
    rcases ats_end H with ⟨h1, h2⟩ | ⟨h1, h2, h3⟩
    · exact .inl ⟨h1, .inl ⟨hv.1, hv.2, this.symm⟩⟩
    · exact .inr ⟨h1, .inl ⟨hv.1, hv.2, this.symm⟩⟩
  · have hv4 : ¬ (0 ≤ v ∧ v < 4) := fun h => hv ⟨h.1, by omega⟩
    rcases ats_end H with ⟨h1, h2⟩ | ⟨h1, h2, h3⟩
    · exact .inl ⟨h1, .inr ⟨hv, (way_old hv4 h2).symm⟩⟩
    · exact .inr ⟨h1, .inr ⟨hv, by rw [h3, way_fst hv4 h2]⟩⟩
attribute [irreducible] AtSt

set_option maxRecDepth 100000 in
set_option maxHeartbeats 4000000 in
theorem rput13_c (s : St) (ht : s.t < 8) (e : En) (v : Int) (w : World) :
    Calls Tryz.prog 65 #[.agg (stC s), .agg (enC e), .int .i64 v] w fun r w' => r = .returned (.tuple #[.agg (stC (putS e v s)), .int .i64 ((wayS e v s : Nat) : Int)]) ∧ Ext w w' := by
  have h1 : Blk (((w.alloc (.cells (stC s) 69)).alloc (.cells (enC e) 66)).alloc (.cells #[.bool false, .int .u64 0, .bool false, .int .i64 0, .int .u64 0, .int .u64 0, .bool false, .bool false, .bool false, .bool false, .bool false, .bool false, .int .u64 0, .bool false, .int .i64 0, .int .u64 0, .int .u64 0, .bool false, .bool false, .bool false, .bool false, .bool false, .bool false, .int .u64 0, .bool false, .int .i64 0, .int .u64 0, .int .u64 0, .bool false, .bool false, .bool false, .bool false, .bool false, .bool false, .int .u64 0, .bool false, .int .i64 0, .int .u64 0, .int .u64 0, .bool false, .bool false, .bool false, .bool false, .bool false, .int .u8 0] 69)) w.heap.size 69 (stC s) := ((Blk.new w _ _).alloc _).alloc _
  have h2 : Blk (((w.alloc (.cells (stC s) 69)).alloc (.cells (enC e) 66)).alloc (.cells #[.bool false, .int .u64 0, .bool false, .int .i64 0, .int .u64 0, .int .u64 0, .bool false, .bool false, .bool false, .bool false, .bool false, .bool false, .int .u64 0, .bool false, .int .i64 0, .int .u64 0, .int .u64 0, .bool false, .bool false, .bool false, .bool false, .bool false, .bool false, .int .u64 0, .bool false, .int .i64 0, .int .u64 0, .int .u64 0, .bool false, .bool false, .bool false, .bool false, .bool false, .bool false, .int .u64 0, .bool false, .int .i64 0, .int .u64 0, .int .u64 0, .bool false, .bool false, .bool false, .bool false, .bool false, .int .u8 0] 69)) (w.heap.size + 1) 66 (enC e) := (blk_at (by simp)).alloc _
  have h3 : Blk (((w.alloc (.cells (stC s) 69)).alloc (.cells (enC e) 66)).alloc (.cells #[.bool false, .int .u64 0, .bool false, .int .i64 0, .int .u64 0, .int .u64 0, .bool false, .bool false, .bool false, .bool false, .bool false, .bool false, .int .u64 0, .bool false, .int .i64 0, .int .u64 0, .int .u64 0, .bool false, .bool false, .bool false, .bool false, .bool false, .bool false, .int .u64 0, .bool false, .int .i64 0, .int .u64 0, .int .u64 0, .bool false, .bool false, .bool false, .bool false, .bool false, .bool false, .int .u64 0, .bool false, .int .i64 0, .int .u64 0, .int .u64 0, .bool false, .bool false, .bool false, .bool false, .bool false, .int .u8 0] 69)) (w.heap.size + 2) 69 #[.bool false, .int .u64 0, .bool false, .int .i64 0, .int .u64 0, .int .u64 0, .bool false, .bool false, .bool false, .bool false, .bool false, .bool false, .int .u64 0, .bool false, .int .i64 0, .int .u64 0, .int .u64 0, .bool false, .bool false, .bool false, .bool false, .bool false, .bool false, .int .u64 0, .bool false, .int .i64 0, .int .u64 0, .int .u64 0, .bool false, .bool false, .bool false, .bool false, .bool false, .bool false, .int .u64 0, .bool false, .int .i64 0, .int .u64 0, .int .u64 0, .bool false, .bool false, .bool false, .bool false, .bool false, .int .u8 0] := blk_at (by simp)
  have HE := Lib.hid ((((Ext.refl w).alloc (.cells (stC s) 69)).alloc (.cells (enC e) 66)).alloc (.cells #[.bool false, .int .u64 0, .bool false, .int .i64 0, .int .u64 0, .int .u64 0, .bool false, .bool false, .bool false, .bool false, .bool false, .bool false, .int .u64 0, .bool false, .int .i64 0, .int .u64 0, .int .u64 0, .bool false, .bool false, .bool false, .bool false, .bool false, .bool false, .int .u64 0, .bool false, .int .i64 0, .int .u64 0, .int .u64 0, .bool false, .bool false, .bool false, .bool false, .bool false, .bool false, .int .u64 0, .bool false, .int .i64 0, .int .u64 0, .int .u64 0, .bool false, .bool false, .bool false, .bool false, .bool false, .int .u8 0] 69))
  go_enter Tryz.func65, Tryz.ntmps65
  go_wp2
  go_loopw [8, 9] (fun a i wr => ∃ (k : Nat) (x z : Int), k ≤ 4 ∧ z = (k : Int) - 1 ∧ i = .int .i64 z ∧ a = .int .i64 x ∧ Hid (AtSt (cutW e s.ws) k x) ∧ Blk wr w.heap.size 69 (stC ⟨dropD e s.ws k, s.t⟩) ∧ Blk wr (w.heap.size + 1) 66 (enC e) ∧ Blk wr (w.heap.size + 2) 69 #[.bool false, .int .u64 0, .bool false, .int .i64 0, .int .u64 0, .int .u64 0, .bool false, .bool false, .bool false, .bool false, .bool false, .bool false, .int .u64 0, .bool false, .int .i64 0, .int .u64 0, .int .u64 0, .bool false, .bool false, .bool false, .bool false, .bool false, .bool false, .int .u64 0, .bool false, .int .i64 0, .int .u64 0, .int .u64 0, .bool false, .bool false, .bool false, .bool false, .bool false, .bool false, .int .u64 0, .bool false, .int .i64 0, .int .u64 0, .int .u64 0, .bool false, .bool false, .bool false, .bool false, .bool false, .int .u8 0] ∧ Ext w wr) (fun _ i _ => (intOf i + 1).toNat)
  case atStart => exact ⟨4, -1, 3, by omega, by omega, rfl, rfl, Lib.hid (ats_4 _), by rw [dropD_4]; exact h1, h2, h3, HE.out⟩
  case round =>
    clear h1 h2 h3 HE
    obtain ⟨k, x, z, hk, hz, rfl, rfl, I, h1, h2, h3, hE⟩ := hrel
    have HE := Lib.hid hE
    clear hE
    by_cases hlt : 0 < k
    · obtain ⟨m, rfl⟩ : ∃ m, k = m + 1 := ⟨k - 1, by omega⟩
      obtain rfl : z = (m : Int) := by omega
      have hm : m < 4 := by omega
      have hmz : (m : Int) < 4 := by omega
      have hat := stC_at ⟨dropD e s.ws (m + 1), s.t⟩ hm
      rw [show (⟨dropD e s.ws (m + 1), s.t⟩ : St).ws = dropD e s.ws (m + 1) from rfl, dropD_own e s.ws hm] at hat
      have hsm := fun w => rsame13_c e (s.ws.at m) w
      have HS := stC_put ⟨dropD e s.ws (m + 1), s.t⟩ hm e0
      rw [show (⟨dropD e s.ws (m + 1), s.t⟩ : St).put m e0 = ⟨(dropD e s.ws (m + 1)).put m e0, s.t⟩ from rfl] at HS
      have HB : m * 11 + (enC e0).size ≤ (stC ⟨dropD e s.ws (m + 1), s.t⟩).size := by rw [stC_size, enC_size]; omega
      have hcut := dropD_cut e s.ws hm
      have hAy := ats_yes (s := cutW e s.ws) hm
      have hAn := fun h => ats_no (s := cutW e s.ws) (a := x) hm h I.out
      rw [empty_eq] at hAy hAn
      rw [← hcut] at hAy hAn
      clear hcut hk hz hlt
      obtain ⟨B, hB⟩ : ∃ B, sameE e (s.ws.at m) = B := ⟨_, rfl⟩
      have hdy := @dropD_yes e s.ws m hm
      have hdn := @dropD_no e s.ws m hm
      rw [hB] at hdy hdn hsm
      generalize s.ws.at m = f at hat hsm
      clear hB
      go_wp2_with fail
      (try replace hz := Blk.drew hz); (try replace hm := Blk.drew hm); (try replace h1 := Blk.drew h1); (try replace h2 := Blk.drew h2); (try replace h3 := Blk.drew h3); replace HE := Lib.hid HE.out.drew
      refine wp_region_seq [(0, false), (1, false), (2, false), (3, false), (4, false), (5, true)] Ext (by kernel_rfl) (by kernel_rfl) Ext.refl (fun _ _ _ => Ext.trans) ?_; simp only [List.map, nth_z, nth_s]
      refine seq_load rfl rfl (fun x hx => Blk.ext (h2) hx) rfl Tryz.underlying66 (by kernel_rfl) (by rfl) ?_; intro K hK; simp only [Act.put, List.setIfInBounds_toArray, List.set_cons_zero, List.set_cons_succ]; refine hK _ ?_; clear hK K
      (repeat (first | (refine seq_skip (by rfl) ?_; intro K hK; simp only [Act.put, List.setIfInBounds_toArray, List.set_cons_zero, List.set_cons_succ]; refine hK _ ?_; clear hK K) | (refine seq_skipc (by rfl) ?_; intro K hK; simp only [Act.put, List.setIfInBounds_toArray, List.set_cons_zero, List.set_cons_succ]; refine hK _ ?_; clear hK K) | (refine seq_read (by rfl) (by rfl) ?_; intro K hK; go_big_quiet_op; first | go_big_quiet_on | (refine ⟨_, fun _ _ => rfl, ?_⟩; go_big_quiet_on))))
      refine seq_load_part rfl rfl (fun x hx => Blk.ext (h1) hx) (hat) rfl Tryz.underlying66 (en_info _) (by rfl) ?_; intro K hK; simp only [Act.put, List.setIfInBounds_toArray, List.set_cons_zero, List.set_cons_succ]; refine hK _ ?_; clear hK K
      refine seq_call (hsm _) rfl Tryz.func110 (by kernel_rfl) (by kernel_rfl) (by rfl) (by rfl) ?_; intro K hK; rintro e w' ⟨rfl, hE⟩; refine ⟨_, rfl, hE, ?_⟩; simp only [Act.put, List.setIfInBounds_toArray, List.set_cons_zero, List.set_cons_succ]; refine hK _ _ ?_; clear hK K; (try replace hz := hz.ext hE); (try replace hm := hm.ext hE); (try replace h1 := h1.ext hE); (try replace h2 := h2.ext hE); (try replace h3 := h3.ext hE); (try replace HE := Lib.hid (HE.out.trans hE))
      clear hE hsm
      refine seq_done ?_
      cases B
      · rw [hdn rfl] at h1
        clear hdn hdy HS HB hat
        have x0 := h1.way hm (i := 0) (by decide)
        rw [enC_v] at x0
        simp only [Nat.add_zero] at x0
        cases hv0 : ((dropD e s.ws m).at m).v
        · have I2 := Lib.hid (hAy (by rw [hv0]; rfl))
          rw [hv0] at x0
          clear hAy hAn hv0
          go_wp2
          go_roundw
          case rel => exact ⟨m, m, (m : Int) - 1, by omega, rfl, by go_num, rfl, I2, h1, h2, h3, HE.out⟩
          case measure => simp [intOf] <;> omega
        · have I2 := Lib.hid (hAn (by rw [hv0]; rfl))
          rw [hv0] at x0
          clear hAy hAn hv0
          go_wp2
          go_roundw
          case rel => exact ⟨m, x, (m : Int) - 1, by omega, rfl, by go_num, rfl, I2, h1, h2, h3, HE.out⟩
          case measure => simp [intOf] <;> omega
      · rw [hdy rfl] at HS
        have h1b := h1.row (stC ⟨dropD e s.ws m, s.t⟩)
        have h2b := h2.apart (show w.heap.size + 1 ≠ w.heap.size by omega) (stC ⟨dropD e s.ws m, s.t⟩)
        have h3b := h3.apart (show w.heap.size + 2 ≠ w.heap.size by omega) (stC ⟨dropD e s.ws m, s.t⟩)
        have HE2 := Lib.hid (HE.out.row (Nat.le_refl _) (stC ⟨dropD e s.ws m, s.t⟩))
        clear hdn hdy hat h2 h3 HE
        have x0 := h1b.way hm (i := 0) (by decide)
        rw [enC_v] at x0
        simp only [Nat.add_zero] at x0
        cases hv0 : ((dropD e s.ws m).at m).v
        · have I2 := Lib.hid (hAy (by rw [hv0]; rfl))
          rw [hv0] at x0
          clear hAy hAn hv0
          go_wp2_with (first | (refine wpList_build_as (by rfl) rfl (e0_build) ?_) | (refine wpList_store_part rfl 66 _ _ rfl rfl rfl h1 (HB) (HS) (en_info _) (enC_one _) ?_))
          go_roundw
          case rel => exact ⟨m, m, (m : Int) - 1, by omega, rfl, by go_num, rfl, I2, h1b, h2b, h3b, HE2.out⟩
          case measure => simp [intOf] <;> omega
        · have I2 := Lib.hid (hAn (by rw [hv0]; rfl))
          rw [hv0] at x0
          clear hAy hAn hv0
          go_wp2_with (first | (refine wpList_build_as (by rfl) rfl (e0_build) ?_) | (refine wpList_store_part rfl 66 _ _ rfl rfl rfl h1 (HB) (HS) (en_info _) (enC_one _) ?_))
          go_roundw
          case rel => exact ⟨m, x, (m : Int) - 1, by omega, rfl, by go_num, rfl, I2, h1b, h2b, h3b, HE2.out⟩
          case measure => simp [intOf] <;> omega
    · obtain rfl : k = 0 := by omega
      obtain rfl : z = -1 := by omega
      rw [dropD_0] at h1
      have hend := way_ends (v := v) (s := s) I.out
      have hwl := way_lt (e := e) (v := v) ht
      have hus := fun w => ruse13_c ((⟨cutW e s.ws, s.t⟩ : St).put (wayS e v s) e) ht (wayS e v s) hwl w
      rw [show (⟨((⟨cutW e s.ws, s.t⟩ : St).put (wayS e v s) e).ws, toN ((⟨cutW e s.ws, s.t⟩ : St).put (wayS e v s) e).t (wayS e v s)⟩ : St) = putS e v s from (putS_eq e v s).symm] at hus
      have HS := stC_put ⟨cutW e s.ws, s.t⟩ hwl e
      have HB : wayS e v s * 11 + (enC e).size ≤ (stC ⟨cutW e s.ws, s.t⟩).size := by rw [stC_size, enC_size]; omega
      have x44 := h1.st_t
      have hvi := fun w => rvic_c s.t ht w
      clear I hk hz hlt
      generalize (⟨cutW e s.ws, s.t⟩ : St).put (wayS e v s) e = s2 at *
      rw [show (⟨cutW e s.ws, s.t⟩ : St).t = s.t from rfl] at x44
      generalize (⟨cutW e s.ws, s.t⟩ : St) = s1 at *
      generalize h3e : putS e v s = s3 at hus
      generalize hje : wayS e v s = j at *
      have H3 := Lib.hid h3e
      have HJ := Lib.hid hje
      clear h3e hje
      have hjz : (j : Int) < 4 := by omega
      have h1b := h1.row (stC s2)
      have h3b := h3.apart (show w.heap.size + 2 ≠ w.heap.size by omega) (stC s2)
      have HE2 := Lib.hid (HE.out.row (Nat.le_refl _) (stC s2))
      clear h3 HE
      rcases hend with ⟨rfl, ⟨v0, v3, rfl⟩ | ⟨vn, hvj⟩⟩ | ⟨hx, ⟨v0, v3, rfl⟩ | ⟨vn, rfl⟩⟩
      · clear v0 v3
        have d1 : decide ((j : Int) ≤ 3) = true := by simp; omega
        go_wp2_with fail
        refine (hvi _).mono ?_
        rintro e1 w' ⟨rfl, rfl⟩
        go_wp2_with (first | (refine wpList_load_blk (by rfl) 66 _ rfl rfl h2 Tryz.underlying66 rfl (by kernel_rfl) ?_) | (refine wpList_store_part rfl 66 _ _ rfl rfl rfl h1 (HB) (HS) (en_info _) (enC_one _) ?_) | (refine wpList_load_blk (by rfl) 69 _ rfl rfl h1b Tryz.underlying69 rfl (by kernel_rfl) ?_))
        refine (hus _).mono ?_
        rintro e1 w2 ⟨rfl, hE⟩
        replace h3b := h3b.ext hE
        replace HE2 := Lib.hid (HE2.out.trans hE)
        clear hE hus h1 h1b h2 HS HB
        go_wp2_with (refine wpList_store_row rfl 69 _ _ rfl _ (stC _) rfl rfl _ _ h3b (st_info _) (by simp [stC_size]) (stC_one _) ?_)
        (try simp only [Exit.inBlock, Exit.then]); (try rw [Exit.noGoto_ret]); refine bodyPost_ret (results_c2 rfl _ _ _ _ _ _ rfl ((h3b.row _)) rfl Tryz.underlying69 (st_info _)) rfl ?_
        exact ⟨by rw [H3.out, HJ.out]; first | rfl | simp, HE2.out.row (by omega) _⟩
      · rw [hvj] at hvi
        clear hvj
        have d1 : (decide (0 ≤ v) && decide (v ≤ 3)) = false := by simp; omega
        cases hv0 : decide (0 ≤ v)
        · clear d1 vn
          go_wp2_with fail
          refine (hvi _).mono ?_
          rintro e1 w' ⟨rfl, rfl⟩
          go_wp2_with (first | (refine wpList_load_blk (by rfl) 66 _ rfl rfl h2 Tryz.underlying66 rfl (by kernel_rfl) ?_) | (refine wpList_store_part rfl 66 _ _ rfl rfl rfl h1 (HB) (HS) (en_info _) (enC_one _) ?_) | (refine wpList_load_blk (by rfl) 69 _ rfl rfl h1b Tryz.underlying69 rfl (by kernel_rfl) ?_))
          refine (hus _).mono ?_
          rintro e1 w2 ⟨rfl, hE⟩
          replace h3b := h3b.ext hE
          replace HE2 := Lib.hid (HE2.out.trans hE)
          clear hE hus h1 h1b h2 HS HB
          go_wp2_with (refine wpList_store_row rfl 69 _ _ rfl _ (stC _) rfl rfl _ _ h3b (st_info _) (by simp [stC_size]) (stC_one _) ?_)
          (try simp only [Exit.inBlock, Exit.then]); (try rw [Exit.noGoto_ret]); refine bodyPost_ret (results_c2 rfl _ _ _ _ _ _ rfl ((h3b.row _)) rfl Tryz.underlying69 (st_info _)) rfl ?_
          exact ⟨by rw [H3.out, HJ.out]; first | rfl | simp, HE2.out.row (by omega) _⟩
        · rw [hv0, Bool.true_and] at d1
          clear vn
          go_wp2_with fail
          refine (hvi _).mono ?_
          rintro e1 w' ⟨rfl, rfl⟩
          go_wp2_with (first | (refine wpList_load_blk (by rfl) 66 _ rfl rfl h2 Tryz.underlying66 rfl (by kernel_rfl) ?_) | (refine wpList_store_part rfl 66 _ _ rfl rfl rfl h1 (HB) (HS) (en_info _) (enC_one _) ?_) | (refine wpList_load_blk (by rfl) 69 _ rfl rfl h1b Tryz.underlying69 rfl (by kernel_rfl) ?_))
          refine (hus _).mono ?_
          rintro e1 w2 ⟨rfl, hE⟩
          replace h3b := h3b.ext hE
          replace HE2 := Lib.hid (HE2.out.trans hE)
          clear hE hus h1 h1b h2 HS HB
          go_wp2_with (refine wpList_store_row rfl 69 _ _ rfl _ (stC _) rfl rfl _ _ h3b (st_info _) (by simp [stC_size]) (stC_one _) ?_)
          (try simp only [Exit.inBlock, Exit.then]); (try rw [Exit.noGoto_ret]); refine bodyPost_ret (results_c2 rfl _ _ _ _ _ _ rfl ((h3b.row _)) rfl Tryz.underlying69 (st_info _)) rfl ?_
          exact ⟨by rw [H3.out, HJ.out]; first | rfl | simp, HE2.out.row (by omega) _⟩
      · clear v0 v3
        have d1 : decide ((j : Int) ≤ 3) = true := by simp; omega
        have d2 : decide (x < 0) = false := by simp; omega
        clear hx
        go_wp2_with (first | (refine wpList_load_blk (by rfl) 66 _ rfl rfl h2 Tryz.underlying66 rfl (by kernel_rfl) ?_) | (refine wpList_store_part rfl 66 _ _ rfl rfl rfl h1 (HB) (HS) (en_info _) (enC_one _) ?_) | (refine wpList_load_blk (by rfl) 69 _ rfl rfl h1b Tryz.underlying69 rfl (by kernel_rfl) ?_))
        refine (hus _).mono ?_
        rintro e1 w2 ⟨rfl, hE⟩
        replace h3b := h3b.ext hE
        replace HE2 := Lib.hid (HE2.out.trans hE)
        clear hE hus h1 h1b h2 HS HB
        go_wp2_with (refine wpList_store_row rfl 69 _ _ rfl _ (stC _) rfl rfl _ _ h3b (st_info _) (by simp [stC_size]) (stC_one _) ?_)
        (try simp only [Exit.inBlock, Exit.then]); (try rw [Exit.noGoto_ret]); refine bodyPost_ret (results_c2 rfl _ _ _ _ _ _ rfl ((h3b.row _)) rfl Tryz.underlying69 (st_info _)) rfl ?_
        exact ⟨by rw [H3.out, HJ.out]; first | rfl | simp, HE2.out.row (by omega) _⟩
      · have d2 : decide ((j : Int) < 0) = false := by simp
        have d1 : (decide (0 ≤ v) && decide (v ≤ 3)) = false := by simp; omega
        cases hv0 : decide (0 ≤ v)
        · clear d1 vn
          go_wp2_with (first | (refine wpList_load_blk (by rfl) 66 _ rfl rfl h2 Tryz.underlying66 rfl (by kernel_rfl) ?_) | (refine wpList_store_part rfl 66 _ _ rfl rfl rfl h1 (HB) (HS) (en_info _) (enC_one _) ?_) | (refine wpList_load_blk (by rfl) 69 _ rfl rfl h1b Tryz.underlying69 rfl (by kernel_rfl) ?_))
          refine (hus _).mono ?_
          rintro e1 w2 ⟨rfl, hE⟩
          replace h3b := h3b.ext hE
          replace HE2 := Lib.hid (HE2.out.trans hE)
          clear hE hus h1 h1b h2 HS HB
          go_wp2_with (refine wpList_store_row rfl 69 _ _ rfl _ (stC _) rfl rfl _ _ h3b (st_info _) (by simp [stC_size]) (stC_one _) ?_)
          (try simp only [Exit.inBlock, Exit.then]); (try rw [Exit.noGoto_ret]); refine bodyPost_ret (results_c2 rfl _ _ _ _ _ _ rfl ((h3b.row _)) rfl Tryz.underlying69 (st_info _)) rfl ?_
          exact ⟨by rw [H3.out, HJ.out]; first | rfl | simp, HE2.out.row (by omega) _⟩
        · rw [hv0, Bool.true_and] at d1
          clear vn
          go_wp2_with (first | (refine wpList_load_blk (by rfl) 66 _ rfl rfl h2 Tryz.underlying66 rfl (by kernel_rfl) ?_) | (refine wpList_store_part rfl 66 _ _ rfl rfl rfl h1 (HB) (HS) (en_info _) (enC_one _) ?_) | (refine wpList_load_blk (by rfl) 69 _ rfl rfl h1b Tryz.underlying69 rfl (by kernel_rfl) ?_))
          refine (hus _).mono ?_
          rintro e1 w2 ⟨rfl, hE⟩
          replace h3b := h3b.ext hE
          replace HE2 := Lib.hid (HE2.out.trans hE)
          clear hE hus h1 h1b h2 HS HB
          go_wp2_with (refine wpList_store_row rfl 69 _ _ rfl _ (stC _) rfl rfl _ _ h3b (st_info _) (by simp [stC_size]) (stC_one _) ?_)
          (try simp only [Exit.inBlock, Exit.then]); (try rw [Exit.noGoto_ret]); refine bodyPost_ret (results_c2 rfl _ _ _ _ _ _ rfl ((h3b.row _)) rfl Tryz.underlying69 (st_info _)) rfl ?_
          exact ⟨by rw [H3.out, HJ.out]; first | rfl | simp, HE2.out.row (by omega) _⟩

end Go.Proofs.YtlhoedpencmikaaGreatDoor
