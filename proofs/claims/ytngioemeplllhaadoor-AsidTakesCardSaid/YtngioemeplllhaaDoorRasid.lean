/- The document's answers for layer 18 (atlasref18): Right, New, Free, Take, Give. -/
import Derived.Test.YtngioemeplllhaaDoorMasid
import Derived.Test.YtngioemeplllhaaDoorRpoo
import Derived.Test.YtngioemeplllhaaDoorAgg
import Derived.Test.YtngioemeplllhaaDoorMid
import Derived.Deep.Cut
namespace Go.Proofs.YtngioemeplllhaaDoor
open Go.ChangeShapes Go.WideShapes Go.ChangeAt Go.RowKit
set_option linter.unusedVariables false
set_option linter.unusedSimpArgs false
set_option maxRecDepth 10000

theorem anC_set1 (y : Int) (F O v : Nat) : (anC ⟨y, F, O⟩).setIfInBounds 1 (.int .u64 (v : Int)) = anC ⟨y, v, O⟩ := by rw [anC_def, anC_def]; rfl
theorem anC_set2 (y : Int) (F O v : Nat) : (anC ⟨y, F, O⟩).setIfInBounds 2 (.int .u64 (v : Int)) = anC ⟨y, F, v⟩ := by rw [anC_def, anC_def]; rfl
theorem anC_zero : anC anZ = #[.int .i64 0, .int .u64 0, .int .u64 0] := by unfold anZ; rw [anC_def]; rfl
theorem anr_lo {y : Int} {F O : Nat} (h : y < 1 ∨ 16 < y) : anR ⟨y, F, O⟩ = false := by
  unfold anR; simp only [decide_eq_false_iff_not]; omega
theorem anr_no {F O m i : Nat} (h : m ≤ i) (hb : F.testBit i = true ∨ O.testBit i = true) : anR ⟨m, F, O⟩ = false := by
  unfold anR
  simp only [decide_eq_false_iff_not, Int.toNat_natCast]
  rintro ⟨-, -, h1, h2⟩
  rcases hb with hb | hb
  · rw [tb_top h1 h] at hb; cases hb
  · rw [tb_top h2 h] at hb; cases hb
theorem anr_yes {F O m : Nat} (m0 : 1 ≤ m) (m1 : m ≤ 16) (hF : F < 18446744073709551616) (hO : O < 18446744073709551616) (h : ∀ j, m ≤ j → j < 64 → F.testBit j = false ∧ O.testBit j = false) : anR ⟨m, F, O⟩ = true := by
  unfold anR
  simp only [decide_eq_true_eq, Int.toNat_natCast]
  refine ⟨by omega, by omega, lt_of_tb fun i hi => ?_, lt_of_tb fun i hi => ?_⟩
  · by_cases h2 : i < 64
    · exact (h i hi h2).1
    · exact tb_big (by omega) (by omega)
  · by_cases h2 : i < 64
    · exact (h i hi h2).2
    · exact tb_big (by omega) (by omega)
theorem Blk.mem {w : World} {g : Nat} {t : TypeId} {cs : Array Value} (h : Blk w g t cs) : w.heap[g]? = some (.cells cs t (0, 0)) := h
attribute [local irreducible] World.setRow World.alloc Blk
set_option maxHeartbeats 1000000 in
theorem rright18_c (p : As) (hok : p.ok) (w : World) :
    Calls Tryd.prog 10 #[.agg (anC p)] w fun e w' => e = .returned (.bool (anR p)) ∧ Ext w w' := by
  obtain ⟨y, F, O⟩ := p
  obtain ⟨⟨y0, y1⟩, hF, hO⟩ := hok
  simp only at y0 y1 hF hO
  have h1 := Blk.new w 24 (anC ⟨y, F, O⟩)
  have HE := Lib.hid ((Ext.refl w).alloc (.cells (anC ⟨y, F, O⟩) 24))
  have x0 : _ = some (Value.int .i64 y) := h1.an.1
  have x1 : _ = some (Value.int .u64 (F : Int)) := h1.an.2.1
  have x2 : _ = some (Value.int .u64 (O : Int)) := h1.an.2.2
  clear h1
  by_cases h1 : y < 1
  · have H := Lib.hid (anr_lo (F := F) (O := O) (.inl h1))
    have d1 : decide (y < 1) = true := by simpa using h1
    clear h1
    go_enter Tryd.func10, Tryd.ntmps10
    go_wp2
    go_ret
    exact ⟨by rw [H.out]; rfl, HE.out⟩
  have d1 : decide (y < 1) = false := by simpa using h1
  by_cases h2 : 16 < y
  · have H := Lib.hid (anr_lo (F := F) (O := O) (.inr h2))
    have d2 : decide (16 < y) = true := by simpa using h2
    clear h1 h2
    go_enter Tryd.func10, Tryd.ntmps10
    go_wp2
    go_ret
    exact ⟨by rw [H.out]; rfl, HE.out⟩
  have d2 : decide (16 < y) = false := by simpa using h2
  obtain ⟨m, rfl⟩ := Int.eq_ofNat_of_zero_le (show 0 ≤ y by omega)
  have m0 : 1 ≤ m := by omega
  have m1 : m ≤ 16 := by omega
  clear h1 h2
  go_enter Tryd.func10, Tryd.ntmps10
  go_wp2
  go_loop [3] (fun i => ∃ k : Nat, m ≤ k ∧ k ≤ 64 ∧ i = .int .i64 k ∧ Hid (∀ j, m ≤ j → j < k → F.testBit j = false ∧ O.testBit j = false)) (fun i => (64 - intOf i).toNat)
  case atStart => exact ⟨m, Nat.le_refl _, by omega, rfl, Lib.hid fun j h1 h2 => by omega⟩
  case round =>
    obtain ⟨k, hk, hk2, rfl, hq⟩ := hrel
    by_cases hlt : k < 64
    · have hbf := rbit_c F k (F.testBit k) hF hlt rfl
      have hbo := rbit_c O k (O.testBit k) hO hlt rfl
      cases hb : F.testBit k
      · rw [hb] at hbf
        cases hc : O.testBit k
        · rw [hc] at hbo
          have hq1 : Hid (∀ j, m ≤ j → j < k + 1 → F.testBit j = false ∧ O.testBit j = false) := Lib.hid fun j h1 h2 => by
            by_cases e : j = k
            · subst e; exact ⟨hb, hc⟩
            · exact hq.out j h1 (by omega)
          clear hb hc
          go_wp2_with (go_at_call 19; (first | (with_reducible refine (hbf _).mono ?_) | (with_reducible refine (hbo _).mono ?_)); rintro e w' ⟨rfl, rfl⟩)
          go_round
          case rel => exact ⟨k + 1, by omega, by omega, by go_num, hq1⟩
          case measure => simp [intOf]; omega
        · rw [hc] at hbo
          have H := Lib.hid (anr_no (m := m) (F := F) (O := O) (i := k) hk (.inr hc))
          clear hb hc
          go_wp2_with (go_at_call 19; (first | (with_reducible refine (hbf _).mono ?_) | (with_reducible refine (hbo _).mono ?_)); rintro e w' ⟨rfl, rfl⟩)
          go_ret
          exact ⟨by rw [H.out]; rfl, HE.out⟩
      · rw [hb] at hbf
        have H := Lib.hid (anr_no (m := m) (F := F) (O := O) (i := k) hk (.inl hb))
        clear hb
        go_wp2_with (go_at_call 19; refine (hbf _).mono ?_; rintro e w' ⟨rfl, rfl⟩)
        go_ret
        exact ⟨by rw [H.out]; rfl, HE.out⟩
    · have hk' : k = 64 := by omega
      have H := Lib.hid (anr_yes (F := F) (O := O) m0 m1 hF hO (fun i h1 h2 => hq.out i h1 (by omega)))
      subst hk'
      go_wp2
      go_ret
      exact ⟨by rw [H.out]; rfl, HE.out⟩
set_option maxHeartbeats 1000000 in
theorem rnew18_c (m : Nat) (m0 : 1 ≤ m) (m1 : m ≤ 16) (w : World) :
    Calls Tryd.prog 8 #[.int .i64 (m : Int)] w fun e w' => e = .returned (.agg (anC (anN m))) ∧ Ext w w' := by
  have hN : anN m = ⟨m, 2 ^ m - 1, 0⟩ := by
    have hy : anY (m : Int) = true := by unfold anY; simp only [decide_eq_true_eq]; omega
    unfold anN; rw [hy, if_pos rfl, Int.toNat_natCast]
  rw [hN]
  have k1 : Blk ((w.alloc (.cells #[.int .i64 0, .int .u64 0, .int .u64 0] 24)).alloc (.cells #[.int .i64 (m : Int), .int .u64 0, .int .u64 0] 24)) w.heap.size 24 #[.int .i64 0, .int .u64 0, .int .u64 0] := (Blk.new w _ _).alloc _
  have h1 : Blk ((w.alloc (.cells #[.int .i64 0, .int .u64 0, .int .u64 0] 24)).alloc (.cells #[.int .i64 (m : Int), .int .u64 0, .int .u64 0] 24)) (w.heap.size + 1) 24 (anC ⟨m, 0, 0⟩) := by rw [anC_def]; exact blk_at (by simp)
  have HE := Lib.hid (((Ext.refl w).alloc (.cells #[.int .i64 0, .int .u64 0, .int .u64 0] 24)).alloc (.cells #[.int .i64 (m : Int), .int .u64 0, .int .u64 0] 24))
  go_enter Tryd.func8, Tryd.ntmps8
  go_wp2
  go_loopw [4] (fun i wr => ∃ k : Nat, k ≤ m ∧ i = .int .i64 k ∧ Blk wr w.heap.size 24 #[.int .i64 0, .int .u64 0, .int .u64 0] ∧ Blk wr (w.heap.size + 1) 24 (anC ⟨m, 2 ^ k - 1, 0⟩) ∧ Ext w wr) (fun i _ => (m - intOf i).toNat)
  case atStart => exact ⟨0, by omega, rfl, k1, h1, HE.out⟩
  case round =>
    clear k1 h1 HE
    obtain ⟨k, hk, rfl, k1, h1, hE⟩ := hrel
    have HE := Lib.hid hE
    clear hE
    by_cases hlt : k < m
    · have H := Lib.hid (ones_set (k := k) (by omega))
      have hl := ones_lt (k := k) (by omega)
      have hst := fun W => rset_1 (2 ^ k - 1) k true hl (by omega) W
      generalize 2 ^ k - 1 = G at *
      generalize bitN G k true = G2 at *
      have x1 : _ = some (Value.int .u64 (G : Int)) := h1.an.2.1
      go_wp2_with fail
      refine (hst _).mono ?_
      rintro e w2 ⟨rfl, hE⟩
      replace k1 := k1.ext hE
      replace h1 := h1.ext hE
      replace HE := Lib.hid (HE.out.trans hE)
      clear hE x1 hst
      go_wp2_with (refine wpList_store_cell rfl 22 _ _ rfl rfl rfl h1 (by simp [anC_size]) (anC_set1 m G 0 G2) (by kernel_rfl) rfl rfl ?_)
      go_roundw
      case rel => exact ⟨k + 1, by omega, by go_num, k1.apart (by omega) _, by rw [← H.out]; exact h1.row _, HE.out.row (by omega) _⟩
      case measure => simp [intOf]; omega
    · obtain rfl : k = m := by omega
      obtain ⟨G, hG⟩ : ∃ G, 2 ^ k - 1 = G := ⟨_, rfl⟩
      rw [hG] at h1
      have HG := Lib.hid hG
      clear hG
      go_wp2_with (first | (refine wpList_load_blk (by rfl) 24 _ rfl rfl h1 Tryd.underlying24 rfl (by kernel_rfl) ?_) | (refine wpList_store_blk rfl 24 _ _ rfl rfl rfl k1 (an_info _) (by simp [anC_size]) (anC_one _) ?_))
      (try simp only [Exit.inBlock, Exit.then]); (try rw [Exit.noGoto_ret]); refine bodyPost_ret (results_cell_row rfl _ _ _ _ _ _ _ rfl ((k1.row _).mem) Tryd.underlying24 rfl (an_info _)) rfl ?_
      exact ⟨by rw [HG.out], HE.out.row (Nat.le_refl _) _⟩
set_option maxHeartbeats 1000000 in
theorem rfree18_c (p : As) (m : Nat) (h : AnOk p m) (w : World) :
    Calls Tryd.prog 16 #[.agg (anC p)] w fun e w' => e = .returned (.int .i64 ((popN p.fr 64 : Nat) : Int)) ∧ Ext w w' := by
  rw [← an_popm h]
  have hF := h.f64
  have hm := h.le
  have h1 := Blk.new w 24 (anC p)
  have HE := Lib.hid ((Ext.refl w).alloc (.cells (anC p) 24))
  obtain ⟨x0, x1, x2⟩ := h1.an
  rw [h.ma] at x0
  clear h1 h
  generalize p.fr = F at *
  generalize p.ow = O at *
  go_enter Tryd.func16, Tryd.ntmps16
  go_wp2
  go_loop [3, 4] (fun n i => ∃ k : Nat, k ≤ m ∧ i = .int .i64 k ∧ n = .int .i64 ((popN F k : Nat) : Int)) (fun _ i => (m - intOf i).toNat)
  case atStart => exact ⟨0, by omega, rfl, by rw [pop_nil]; rfl⟩
  case round =>
    obtain ⟨k, hk2, rfl, rfl⟩ := hrel
    have hpl := popN_le F k
    by_cases hlt : k < m
    · have hbc := rbit_c F k (F.testBit k) hF (by omega) rfl
      have hs := pop_succ F k
      cases hb : F.testBit k
      all_goals
        rw [hb] at hbc hs
        have Hs := Lib.hid hs
        clear hb hs
        go_wp2_with (go_at_call 19; refine (hbc _).mono ?_; rintro e w' ⟨rfl, rfl⟩)
        go_round
        case rel => exact ⟨k + 1, by omega, by go_num, by rw [Hs.out]; go_num⟩
        case measure => simp [intOf]; omega
    · obtain rfl : k = m := by omega
      go_wp2
      go_ret
      exact ⟨rfl, HE.out⟩
set_option maxHeartbeats 1000000 in
theorem rtake18_c (p : As) (m : Nat) (h : AnOk p m) (w : World) :
    Calls Tryd.prog 12 #[.agg (anC p)] w fun e w' => e = .returned (.tuple #[.agg (anC (anT p)), .int .u64 (anX p : Int), .bool (anO p), .int .i64 (anTe p)]) ∧ Ext w w' := by
  have h1 : Blk ((w.alloc (.cells (anC p) 24)).alloc (.cells #[.int .i64 0, .int .u64 0, .int .u64 0] 24)) w.heap.size 24 (anC p) := (Blk.new w _ _).alloc _
  have k1 : Blk ((w.alloc (.cells (anC p) 24)).alloc (.cells #[.int .i64 0, .int .u64 0, .int .u64 0] 24)) (w.heap.size + 1) 24 #[.int .i64 0, .int .u64 0, .int .u64 0] := blk_at (by simp)
  have HE := Lib.hid (((Ext.refl w).alloc (.cells (anC p) 24)).alloc (.cells #[.int .i64 0, .int .u64 0, .int .u64 0] 24))
  generalize hW1 : (w.alloc (.cells (anC p) 24)).alloc (.cells #[.int .i64 0, .int .u64 0, .int .u64 0] 24) = W1 at h1 k1 HE
  have HW1 := Lib.hid hW1
  have hF := h.f64
  have hO := h.o64
  have hm := h.le
  obtain ⟨x0, x1, x2⟩ := h1.an
  rw [h.ma] at x0
  clear hW1
  by_cases h0 : p.fr = 0
  · obtain ⟨e1, e2, e3, e4⟩ := an_T0 h0
    rw [e1, e2, e3, e4]
    have hbc := fun k (hk : k < 64) => rbit_c 0 k false (by decide) hk (Nat.zero_testBit _)
    rw [h0] at x1
    clear e1 e2 e3 e4 h0 hF hO h
    go_enter Tryd.func12, Tryd.ntmps12
    go_upto_region 1 with fail
    rw [HW1.out]
    clear HW1
    go_wp2_with fail
    go_loop [6] (fun i => ∃ k : Nat, k ≤ m ∧ i = .int .i64 k) (fun i => (m - intOf i).toNat)
    case atStart => exact ⟨0, by omega, rfl⟩
    case round =>
      obtain ⟨k, hk2, rfl⟩ := hrel
      by_cases hlt : k < m
      · have hbk := hbc k (by omega)
        clear hbc
        go_wp2_with (go_at_call 19; refine (hbk _).mono ?_; rintro e w' ⟨rfl, rfl⟩)
        go_round
        case rel => exact ⟨k + 1, by omega, by go_num⟩
        case measure => simp [intOf]; omega
      · obtain rfl : k = m := by omega
        clear hbc
        go_wp2_with (first | (refine wpList_load_blk (by rfl) 24 _ rfl rfl h1 Tryd.underlying24 rfl (by kernel_rfl) ?_) | (refine wpList_store_blk rfl 24 _ _ rfl rfl rfl k1 (an_info _) (by simp [anC_size]) (anC_one _) ?_))
        (try simp only [Exit.inBlock, Exit.then]); (try rw [Exit.noGoto_ret]); refine bodyPost_ret (results_c4 rfl _ _ _ _ _ _ rfl ((k1.row _)) rfl Tryd.underlying24 (an_info _)) rfl ?_
        exact ⟨rfl, HE.out.row (by omega) _⟩
  · obtain ⟨e1, e2, e3, e4⟩ := an_T1 h0
    rw [e1, e2, e3, e4]
    have hkM := h.top h0
    obtain ⟨_, hbit, hlow⟩ := low_spec h0 hF
    have hst := fun W => rset_1 p.fr (lowN' p.fr) false hF (by omega) W
    rw [← take_def] at hst
    have hsu := fun W => rset_1 p.ow (lowN' p.fr) true hO (by omega) W
    have hbo := fun W => rbit_c p.ow (lowN' p.fr) (p.ow.testBit (lowN' p.fr)) hO (by omega) rfl W
    have hbl := fun k (hk : k < lowN' p.fr) => rbit_c p.fr k false hF (by omega) (hlow k hk)
    have hbt := fun W => rbit_c p.fr (lowN' p.fr) true hF (by omega) hbit W
    clear e1 e2 e3 e4 h0 hlow hbit
    have hma := h.ma
    obtain ⟨y, F, O⟩ := p
    simp only at hma hst hsu hbo hbl hbt hkM x1 x2 hF hO ⊢
    subst hma
    generalize lowN' F = L at *
    generalize takeF F = G at *
    generalize bitN O L true = Q at *
    generalize O.testBit L = T at *
    clear h
    go_enter Tryd.func12, Tryd.ntmps12
    go_upto_region 1 with fail
    rw [HW1.out]
    clear HW1
    go_wp2_with fail
    go_loop [6] (fun i => ∃ k : Nat, k ≤ L ∧ i = .int .i64 k) (fun i => (m - intOf i).toNat)
    case atStart => exact ⟨0, by omega, rfl⟩
    case round =>
      obtain ⟨k, hk2, rfl⟩ := hrel
      by_cases hlt : k < L
      · have hbk := hbl k hlt
        have hkm : k < m := by omega
        clear hbl hbt hst hsu hbo
        go_wp2_with (go_at_call 19; refine (hbk _).mono ?_; rintro e w' ⟨rfl, rfl⟩)
        go_round
        case rel => exact ⟨k + 1, by omega, by go_num⟩
        case measure => simp [intOf]; omega
      · obtain rfl : k = L := by omega
        have hkm : k < m := by omega
        have hs : IntKind.u64.wrap ((k : Int) + 1) = ((k + 1 : Nat) : Int) := by rw [IntKind.wrap_u64]; omega
        clear hbl
        go_upto_region 5 with (go_at_call 19; refine (hbt _).mono ?_; rintro e w' ⟨rfl, rfl⟩)
        clear hbt
        go_wp2_with (go_at_call 19; refine (hbo _).mono ?_; rintro e w' ⟨rfl, rfl⟩)
        clear hbo
        refine (hst _).mono ?_
        rintro e w2 ⟨rfl, hE⟩
        replace h1 := h1.ext hE
        replace k1 := k1.ext hE
        replace HE := Lib.hid (HE.out.trans hE)
        replace x2 := ext_cell hE x2
        clear hE hst x1
        have h1k := h1
        replace k1 := k1.apart (show w.heap.size + 1 ≠ w.heap.size by omega) (anC ⟨m, G, O⟩)
        replace h1 := h1.row (anC ⟨m, G, O⟩)
        replace HE := Lib.hid (HE.out.row (Nat.le_refl _) (anC ⟨m, G, O⟩))
        go_upto_region 7 with (refine wpList_store_cell rfl 22 _ _ rfl rfl rfl h1k (by simp [anC_size]) (anC_set1 m F O G) (by kernel_rfl) rfl rfl ?_)
        (try simp only [Act.put, List.setIfInBounds_toArray, List.set_cons_zero, List.set_cons_succ])
        clear h1k x2 x0
        generalize w2.setRow w.heap.size (anC ⟨m, G, O⟩) = X at *
        have x2 : _ = some (Value.int .u64 (O : Int)) := h1.an.2.2
        go_wp2_with fail
        refine (hsu _).mono ?_
        rintro e w3 ⟨rfl, hE⟩
        replace h1 := h1.ext hE
        replace k1 := k1.ext hE
        replace HE := Lib.hid (HE.out.trans hE)
        clear hE hsu x2
        have h1k := h1
        replace k1 := k1.apart (show w.heap.size + 1 ≠ w.heap.size by omega) (anC ⟨m, G, Q⟩)
        replace h1 := h1.row (anC ⟨m, G, Q⟩)
        replace HE := Lib.hid (HE.out.row (Nat.le_refl _) (anC ⟨m, G, Q⟩))
        go_upto_region 8 with (refine wpList_store_cell rfl 22 _ _ rfl rfl rfl h1k (by simp [anC_size]) (anC_set2 m G O Q) (by kernel_rfl) rfl rfl ?_)
        (try simp only [Act.put, List.setIfInBounds_toArray, List.set_cons_zero, List.set_cons_succ])
        clear h1k
        generalize w3.setRow w.heap.size (anC ⟨m, G, Q⟩) = Y at *
        go_wp2_with (first | (refine wpList_load_blk (by rfl) 24 _ rfl rfl h1 Tryd.underlying24 rfl (by kernel_rfl) ?_) | (refine wpList_store_blk rfl 24 _ _ rfl rfl rfl k1 (an_info _) (by simp [anC_size]) (anC_one _) ?_))
        (try simp only [Exit.inBlock, Exit.then]); (try rw [Exit.noGoto_ret]); refine bodyPost_ret (results_c4 rfl _ _ _ _ _ _ rfl ((k1.row _)) rfl Tryd.underlying24 (an_info _)) rfl ?_
        exact ⟨rfl, HE.out.row (by omega) _⟩
theorem anB_at {y : Int} {F O n k : Nat} (h : k + 1 = n) (hy : (k : Int) < y) : anB ⟨y, F, O⟩ n = !F.testBit k := by
  subst h
  unfold anB
  rw [decide_eq_true (Nat.le_add_left 1 k), decide_eq_true (show ((k + 1 : Nat) : Int) ≤ (⟨y, F, O⟩ : As).ma by show ((k + 1 : Nat) : Int) ≤ y; omega)]
  simp
theorem anB_no {m : Nat} {F O n : Nat} (h : ∀ j, j < m → j + 1 ≠ n) : anB ⟨m, F, O⟩ n = false := by
  unfold anB
  by_cases h1 : 1 ≤ n ∧ n ≤ m
  · exact absurd (show n - 1 + 1 = n by omega) (h (n - 1) (by omega))
  · by_cases h0 : 1 ≤ n
    · rw [decide_eq_false (show ¬ ((n : Int) ≤ (⟨m, F, O⟩ : As).ma) by show ¬ ((n : Int) ≤ (m : Int)); omega)]; simp
    · rw [decide_eq_false h0]; simp
set_option maxHeartbeats 1000000 in
theorem rgive18_c (p : As) (m : Nat) (h : AnOk p m) (n : Nat) (hn : n < 18446744073709551616) (w : World) :
    Calls Tryd.prog 14 #[.agg (anC p), .int .u64 (n : Int)] w fun e w' => e = .returned (.tuple #[.agg (anC (anG p n)), .int .i64 (anGe p n)]) ∧ Ext w w' := by
  have h1 : Blk ((w.alloc (.cells (anC p) 24)).alloc (.cells #[.int .i64 0, .int .u64 0, .int .u64 0] 24)) w.heap.size 24 (anC p) := (Blk.new w _ _).alloc _
  have k1 : Blk ((w.alloc (.cells (anC p) 24)).alloc (.cells #[.int .i64 0, .int .u64 0, .int .u64 0] 24)) (w.heap.size + 1) 24 #[.int .i64 0, .int .u64 0, .int .u64 0] := blk_at (by simp)
  have HE := Lib.hid (((Ext.refl w).alloc (.cells (anC p) 24)).alloc (.cells #[.int .i64 0, .int .u64 0, .int .u64 0] 24))
  generalize hW1 : (w.alloc (.cells (anC p) 24)).alloc (.cells #[.int .i64 0, .int .u64 0, .int .u64 0] 24) = W1 at h1 k1 HE
  have HW1 := Lib.hid hW1
  have hF := h.f64
  have hO := h.o64
  have hm := h.le
  obtain ⟨x0, x1, x2⟩ := h1.an
  rw [h.ma] at x0
  have hma := h.ma
  clear hW1 h
  obtain ⟨y, F, O⟩ := p
  simp only at hma x1 x2 hF hO
  subst hma
  go_enter Tryd.func14, Tryd.ntmps14
  go_upto_region 1 with fail
  rw [HW1.out]
  clear HW1
  go_wp2_with fail
  go_loop [6] (fun i => ∃ k : Nat, k ≤ m ∧ i = .int .i64 k ∧ Hid (∀ j, j < k → j + 1 = n → F.testBit j = true)) (fun i => (m - intOf i).toNat)
  case atStart => exact ⟨0, by omega, rfl, Lib.hid fun j h => by omega⟩
  case round =>
    obtain ⟨k, hk2, rfl, hq⟩ := hrel
    by_cases hlt : k < m
    · have hs : IntKind.u64.wrap ((k : Int) + 1) = (k : Int) + 1 := by rw [IntKind.wrap_u64]; omega
      by_cases he : k + 1 = n
      · have hB := anB_at (y := (m : Int)) (F := F) (O := O) he (by omega)
        have d1 : (((k : Int) + 1) == (n : Int)) = true := by rw [beq_iff_eq]; omega
        have hbc := rbit_c F k (F.testBit k) hF (by omega) rfl
        cases hb : F.testBit k
        · rw [hb] at hB hbc
          have hG := an_G1 hB
          simp only [show n - 1 = k by omega] at hG
          have HG := Lib.hid hG
          have hst := fun W => rset_1 F k true hF (by omega) W
          generalize bitN F k true = G at *
          clear hB hG hb hq he
          go_upto_region 5 with (go_at_call 19; refine (hbc _).mono ?_; rintro e w' ⟨rfl, rfl⟩)
          clear hbc
          go_wp2_with fail
          refine (hst _).mono ?_
          rintro e w2 ⟨rfl, hE⟩
          replace h1 := h1.ext hE
          replace k1 := k1.ext hE
          replace HE := Lib.hid (HE.out.trans hE)
          clear hE hst x1
          have h1k := h1
          replace k1 := k1.apart (show w.heap.size + 1 ≠ w.heap.size by omega) (anC ⟨m, G, O⟩)
          replace h1 := h1.row (anC ⟨m, G, O⟩)
          replace HE := Lib.hid (HE.out.row (Nat.le_refl _) (anC ⟨m, G, O⟩))
          go_upto_region 6 with (refine wpList_store_cell rfl 22 _ _ rfl rfl rfl h1k (by simp [anC_size]) (anC_set1 m F O G) (by kernel_rfl) rfl rfl ?_)
          (try simp only [Act.put, List.setIfInBounds_toArray, List.set_cons_zero, List.set_cons_succ])
          clear h1k x0 x2
          generalize w2.setRow w.heap.size (anC ⟨m, G, O⟩) = X at *
          go_wp2_with (first | (refine wpList_load_blk (by rfl) 24 _ rfl rfl h1 Tryd.underlying24 rfl (by kernel_rfl) ?_) | (refine wpList_store_blk rfl 24 _ _ rfl rfl rfl k1 (an_info _) (by simp [anC_size]) (anC_one _) ?_))
          (try simp only [Exit.inBlock, Exit.then]); (try rw [Exit.noGoto_ret]); refine bodyPost_ret (results_c2 rfl _ _ _ _ _ _ rfl ((k1.row _)) rfl Tryd.underlying24 (an_info _)) rfl ?_
          exact ⟨by rw [HG.out.1, HG.out.2]; rfl, HE.out.row (by omega) _⟩
        · rw [hb] at hbc
          have hq1 : Hid (∀ j, j < k + 1 → j + 1 = n → F.testBit j = true) := Lib.hid fun j h1 h2 => by
            obtain rfl : j = k := by omega
            exact hb
          clear hb hB he
          go_wp2_with (go_at_call 19; refine (hbc _).mono ?_; rintro e w' ⟨rfl, rfl⟩)
          go_round
          case rel => exact ⟨k + 1, by omega, by go_num, hq1⟩
          case measure => simp [intOf]; omega
      · have d1 : (((k : Int) + 1) == (n : Int)) = false := by rw [beq_eq_false_iff_ne]; omega
        have hq1 : Hid (∀ j, j < k + 1 → j + 1 = n → F.testBit j = true) := Lib.hid fun j h1 h2 => hq.out j (by omega) h2
        clear he
        go_wp2
        go_round
        case rel => exact ⟨k + 1, by omega, by go_num, hq1⟩
        case measure => simp [intOf]; omega
    · obtain rfl : k = m := by omega
      have hB : anB ⟨(k : Int), F, O⟩ n = false := by
        by_cases h : ∃ j, j < k ∧ j + 1 = n
        · obtain ⟨j, j1, j2⟩ := h
          rw [anB_at j2 (by omega), hq.out j j1 j2]; rfl
        · exact anB_no fun j j1 j2 => h ⟨j, j1, j2⟩
      have HG := Lib.hid (an_G0 hB)
      clear hB
      go_wp2_with (first | (refine wpList_load_blk (by rfl) 24 _ rfl rfl h1 Tryd.underlying24 rfl (by kernel_rfl) ?_) | (refine wpList_store_blk rfl 24 _ _ rfl rfl rfl k1 (an_info _) (by simp [anC_size]) (anC_one _) ?_))
      (try simp only [Exit.inBlock, Exit.then]); (try rw [Exit.noGoto_ret]); refine bodyPost_ret (results_c2 rfl _ _ _ _ _ _ rfl ((k1.row _)) rfl Tryd.underlying24 (an_info _)) rfl ?_
      exact ⟨by rw [HG.out.1, HG.out.2]; rfl, HE.out.row (by omega) _⟩
end Go.Proofs.YtngioemeplllhaaDoor
