/- SetFinds. -/
import Derived.Test.YtbncaghcokmefaaDoorLaw13a
namespace Go.Proofs.YtbncaghcokmefaaDoor
open Go.ChangeShapes Go.WideShapes Go.ChangeAt Go.RowKit
set_option linter.unusedVariables false
set_option linter.unusedSimpArgs false

/-- with the way that was found dropped, a greater one is found, or none -/
theorem fi_drop {p : En → Bool} {s : Ws} (h : fbW p s = true) (h0 : p e0 = false) : (!fbW p (s.put (fiW p s) e0) || decide ((fiW p s : Int) < (fiW p (s.put (fiW p s) e0) : Nat))) = true := by
  obtain ⟨h1, h2, h3⟩ := fi_is h
  generalize fiW p s = i at *
  cases hb : fbW p (s.put i e0)
  · rfl
  · obtain ⟨k1, k2, k3⟩ := fi_is hb
    generalize fiW p (s.put i e0) = j at *
    have hn : ¬ j ≤ i := fun hle => by
      rw [at_put h1 k1] at k2
      by_cases hji : j = i
      · rw [if_pos hji, h0] at k2; cases k2
      · rw [if_neg hji, h3 j (by omega)] at k2; cases k2
    simp; omega
theorem hit_e0 (n a l : Int) : hitE n a l e0 = false := by
  rw [hitE_eq, matE_eq, covE_eq, e0_v]; simp
theorem Ws.eta (s : St) : (⟨s.ws, s.t⟩ : St) = s := rfl
set_option maxRecDepth 100000 in
set_option maxHeartbeats 8000000 in
theorem SetFinds_w (s : St) (hs : s.ok) (n a : Nat) (n1 : n < 18446744073709551616) (a1 : a < 18446744073709551616) (lv wy : Nat) (hlv : lv < 256) (hwy : wy < 256) (w : World) (hT : Lays w) :
    Calls Tryd.prog 5 #[.agg (stC s), .int .u64 (n : Int), .int .u64 (a : Int), .int .u8 (lv : Int), .int .u8 (wy : Int)] w fun r w' => r = .returned (.bool true) ∧ Ext w w' := by
  have h1 := Blk.new w 29 (stC s)
  have HE := Lib.hid ((Ext.refl w).alloc (.cells (stC s) 29))
  have HT := Lib.hid (hT.ext HE.out)
  have rrs := fun w => rright13_c s w
  cases hr : rightS s
  · rw [hr] at rrs
    go_enter Tryd.func5, Tryd.ntmps5
    go_wp2_with (fail); refine (awake13_c _ HT.out).mono ?_; rintro e w' ⟨rfl, hE⟩; (try replace hb := hb.ext hE); (try replace h1 := h1.ext hE); (try replace h2 := h2.ext hE); (try replace h3 := h3.ext hE); (try replace HT := Lib.hid (HT.out.ext hE)); (try replace HE := Lib.hid (HE.out.trans hE))
    clear hE
    go_wp2_with ((refine wpList_load_blk (by rfl) 29 _ rfl rfl (by first | exact h1 | exact h2 | exact h3 | exact hb) Tryd.underlying29 rfl (by kernel_rfl) ?_)); refine (rrs _).mono ?_; rintro e w' ⟨rfl, hE⟩; (try replace hb := hb.ext hE); (try replace h1 := h1.ext hE); (try replace h2 := h2.ext hE); (try replace h3 := h3.ext hE); (try replace HT := Lib.hid (HT.out.ext hE)); (try replace HE := Lib.hid (HE.out.trans hE))
    clear hE
    go_wp2_with (fail); refine (awake13_c _ HT.out).mono ?_; rintro e w' ⟨rfl, hE⟩; (try replace hb := hb.ext hE); (try replace h1 := h1.ext hE); (try replace h2 := h2.ext hE); (try replace h3 := h3.ext hE); (try replace HT := Lib.hid (HT.out.ext hE)); (try replace HE := Lib.hid (HE.out.trans hE))
    clear hE
    go_wp2
    go_ret
    exact ⟨rfl, HE.out⟩
  rw [hr] at rrs
  have cis := fun w => ris5_c (a : Int) (by omega) (by omega) w
  cases hva : vaB (a : Int)
  · rw [hva] at cis
    go_enter Tryd.func5, Tryd.ntmps5
    go_wp2_with (fail); refine (awake13_c _ HT.out).mono ?_; rintro e w' ⟨rfl, hE⟩; (try replace hb := hb.ext hE); (try replace h1 := h1.ext hE); (try replace h2 := h2.ext hE); (try replace h3 := h3.ext hE); (try replace HT := Lib.hid (HT.out.ext hE)); (try replace HE := Lib.hid (HE.out.trans hE))
    clear hE
    go_wp2_with ((refine wpList_load_blk (by rfl) 29 _ rfl rfl (by first | exact h1 | exact h2 | exact h3 | exact hb) Tryd.underlying29 rfl (by kernel_rfl) ?_)); refine (rrs _).mono ?_; rintro e w' ⟨rfl, hE⟩; (try replace hb := hb.ext hE); (try replace h1 := h1.ext hE); (try replace h2 := h2.ext hE); (try replace h3 := h3.ext hE); (try replace HT := Lib.hid (HT.out.ext hE)); (try replace HE := Lib.hid (HE.out.trans hE))
    clear hE
    go_wp2_with (fail); refine (calls_ext (cis _)).mono ?_; rintro e w' ⟨rfl, hE⟩; (try replace hb := hb.ext hE); (try replace h1 := h1.ext hE); (try replace h2 := h2.ext hE); (try replace h3 := h3.ext hE); (try replace HT := Lib.hid (HT.out.ext hE)); (try replace HE := Lib.hid (HE.out.trans hE))
    clear hE
    go_wp2_with (fail); refine (awake13_c _ HT.out).mono ?_; rintro e w' ⟨rfl, hE⟩; (try replace hb := hb.ext hE); (try replace h1 := h1.ext hE); (try replace h2 := h2.ext hE); (try replace h3 := h3.ext hE); (try replace HT := Lib.hid (HT.out.ext hE)); (try replace HE := Lib.hid (HE.out.trans hE))
    clear hE
    go_wp2
    go_ret
    exact ⟨rfl, HE.out⟩
  rw [hva] at cis
  have hl3 : 0 ≤ (lv : Int) % 3 ∧ (lv : Int) % 3 < 3 := by omega
  have cfi := fun w h => find13_c s (fun k hk _ => may_lv (right_may hr hk)) (n : Int) (a : Int) ((lv : Int) % 3) (by omega) (by omega) (by omega) (by omega) w h
  have hw4 : wy % 4 < 4 := Nat.mod_lt _ (by decide)
  have cus := fun w h => use13_c s (right_t hr) (wy % 4) hw4 w h
  rw [show (((wy % 4 : Nat) : Int)) = (wy : Int) % 4 by omega] at cus
  have cma := fun k (hk : k < 4) w => rmatches_c (s.ws.at k) (right_may hr hk) (n : Int) (a : Int) (by omega) (by omega) hva (by omega) (by omega) w
  have cdr := fun k (hk : k < 4) w => drop13_c s k hk w
  have cfd := fun k (hk : k < 4) w h => find13_c (s.put k e0) (fun j hj _ => may_lv (right_may (right_put hr may_e0 hk) hj)) (n : Int) (a : Int) ((lv : Int) % 3) (by omega) (by omega) (by omega) (by omega) w h
  have hnw : ∀ w, (binOp .neq 27 (.agg (wsC s.ws)) (.agg (wsC s.ws))).run Tryd.prog w = .ok (.bool false) w := (fun w => run_b (neq_ws w _ _) (dec_nots _))
  obtain ⟨u, hu⟩ : ∃ u : St, u = ⟨s.ws, toN s.t (wy % 4)⟩ := ⟨_, rfl⟩
  rw [← hu] at cus
  have huw : u.ws = s.ws := by rw [hu]
  have hup := stC_ws u
  rw [huw] at hup
  clear hu huw hva hr hw4
  have hsz : (wsC s.ws).size = 44 := wsC_size _
  cases hb : fbW (hitE n a ((lv : Int) % 3)) s.ws
  · obtain ⟨k0, hno⟩ := fi_not hb
    rw [hb, k0] at cfi
    clear hb k0 cdr cfd
    go_enter Tryd.func5, Tryd.ntmps5
    go_wp2_with (fail); refine (awake13_c _ HT.out).mono ?_; rintro e w' ⟨rfl, hE⟩; (try replace hb := hb.ext hE); (try replace h1 := h1.ext hE); (try replace h2 := h2.ext hE); (try replace h3 := h3.ext hE); (try replace HT := Lib.hid (HT.out.ext hE)); (try replace HE := Lib.hid (HE.out.trans hE))
    clear hE
    go_wp2_with ((refine wpList_load_blk (by rfl) 29 _ rfl rfl (by first | exact h1 | exact h2 | exact h3 | exact hb) Tryd.underlying29 rfl (by kernel_rfl) ?_)); refine (rrs _).mono ?_; rintro e w' ⟨rfl, hE⟩; (try replace hb := hb.ext hE); (try replace h1 := h1.ext hE); (try replace h2 := h2.ext hE); (try replace h3 := h3.ext hE); (try replace HT := Lib.hid (HT.out.ext hE)); (try replace HE := Lib.hid (HE.out.trans hE))
    clear hE
    go_wp2_with (fail); refine (calls_ext (cis _)).mono ?_; rintro e w' ⟨rfl, hE⟩; (try replace hb := hb.ext hE); (try replace h1 := h1.ext hE); (try replace h2 := h2.ext hE); (try replace h3 := h3.ext hE); (try replace HT := Lib.hid (HT.out.ext hE)); (try replace HE := Lib.hid (HE.out.trans hE))
    clear hE
    go_wp2_with ((refine wpList_load_blk (by rfl) 29 _ rfl rfl (by first | exact h1 | exact h2 | exact h3 | exact hb) Tryd.underlying29 rfl (by kernel_rfl) ?_)); refine (cfi _ HT.out).mono ?_; rintro e w' ⟨rfl, hE⟩; (try replace hb := hb.ext hE); (try replace h1 := h1.ext hE); (try replace h2 := h2.ext hE); (try replace h3 := h3.ext hE); (try replace HT := Lib.hid (HT.out.ext hE)); (try replace HE := Lib.hid (HE.out.trans hE))
    clear hE cfi
    go_wp2_with ((refine wpList_load_blk (by rfl) 29 _ rfl rfl (by first | exact h1 | exact h2 | exact h3 | exact hb) Tryd.underlying29 rfl (by kernel_rfl) ?_)); refine (cus _ HT.out).mono ?_; rintro e w' ⟨rfl, hE⟩; (try replace hb := hb.ext hE); (try replace h1 := h1.ext hE); (try replace h2 := h2.ext hE); (try replace h3 := h3.ext hE); (try replace HT := Lib.hid (HT.out.ext hE)); (try replace HE := Lib.hid (HE.out.trans hE))
    clear hE cus
    have h2 := Blk.new w' 29 (stC u)
    have hE := (Ext.refl w').alloc (.cells (stC u) 29)
    replace h1 := h1.ext hE
    replace HT := Lib.hid (HT.out.ext hE)
    replace HE := Lib.hid (HE.out.trans hE)
    clear hE
    go_wp2_with (first | (refine wpList_store_new rfl 29 _ _ rfl (stC _) _ _ rfl rfl (st_info _) (by simp [stC_size]) (stC_one _) ?_) | (refine wpList_load_part (by rfl) 27 _ rfl rfl h2 (hup) Tryd.underlying27 rfl (ws_info _) ?_) | (refine wpList_load_part (by rfl) 27 _ rfl rfl h1 (stC_ws s) Tryd.underlying27 rfl (ws_info _) ?_) | (refine wpList_cmp (op := .neq) (by rfl) 27 rfl rfl rfl (ws_guard) (hnw) ?_))
    generalize w'.heap.size = g2 at *
    generalize w'.alloc (.cells (stC u) 29) = W1 at *
    clear h2 hup hnw hsz rrs cis HT
    go_loopw [15] (fun c wr => ∃ k : Nat, k ≤ 4 ∧ c = .int .i64 k ∧ Blk wr w.heap.size 29 (stC s) ∧ Ext w wr) (fun c _ => (4 - intOf c).toNat)
    case atStart => exact ⟨0, by omega, rfl, h1, HE.out⟩
    case round =>
      clear h1 HE
      obtain ⟨k, hk, rfl, h1, hE⟩ := hrel
      have HE := Lib.hid hE
      clear hE
      by_cases hlt : k < 4
      · have hkz : (k : Int) < 4 := by omega
        have hat := stC_at s hlt
        have x3 := h1.way hlt (i := 3) (by decide)
        rw [enC_l] at x3
        have cmk := cma k hlt
        have hn := hno k hlt
        rw [hitE_eq] at hn
        clear cma hno hk
        generalize s.ws.at k = e at *
        generalize matE e n a = M at *
        obtain ⟨t, ht⟩ : ∃ t, (e.l == (lv : Int) % 3) = t := ⟨_, rfl⟩
        rw [ht] at hn
        cases t
        · clear hn cmk hat
          go_wp2
          go_roundw
          case rel => exact ⟨k + 1, by omega, by go_num, h1, HE.out⟩
          case measure => simp [intOf]; omega
        · obtain rfl : M = false := by simpa using hn
          clear hn
          go_wp2_with ((refine wpList_load_part (by rfl) 26 _ rfl rfl h1 (hat) Tryd.underlying26 rfl (en_info _) ?_)); refine (cmk _).mono ?_; rintro e w' ⟨rfl, hE⟩; (try replace hb := hb.ext hE); (try replace h1 := h1.ext hE); (try replace h2 := h2.ext hE); (try replace h3 := h3.ext hE); (try replace HT := Lib.hid (HT.out.ext hE)); (try replace HE := Lib.hid (HE.out.trans hE))
          clear hE cmk hat
          go_wp2
          go_roundw
          case rel => exact ⟨k + 1, by omega, by go_num, h1, HE.out⟩
          case measure => simp [intOf]; omega
      · obtain rfl : k = 4 := by omega
        clear cma hno
        go_wp2
        go_ret
        exact ⟨rfl, HE.out⟩
  · obtain ⟨il, ih, imin⟩ := fi_is hb
    have hfd := fi_drop hb (hit_e0 _ _ _)
    rw [hb] at cfi
    clear hb imin
    generalize fiW (hitE n a ((lv : Int) % 3)) s.ws = i at *
    have cmi := cma i il
    have cdi := cdr i il
    have cfj := cfd i il
    rw [show (s.put i e0).ws = s.ws.put i e0 from rfl] at cfj
    clear cma cdr cfd
    generalize fiW (hitE n a ((lv : Int) % 3)) (s.ws.put i e0) = j at *
    generalize fbW (hitE n a ((lv : Int) % 3)) (s.ws.put i e0) = B at *
    generalize s.put i e0 = sd at *
    have hat := stC_at s il
    have iz : (i : Int) < 4 := by omega
    have d0 : decide ((i : Int) < 0) = false := by simp
    have d3 : decide ((3 : Int) < (i : Int)) = false := by simp; omega
    rw [hitE_eq, Bool.and_eq_true, beq_iff_eq] at ih
    rw [ih.2] at cmi
    have hx3 : ∀ W : World, Blk W w.heap.size 29 (stC s) → W.cell? ⟨w.heap.size, i * 11 + 3, none⟩ = some (.int .i64 ((lv : Int) % 3)) := fun W h => by
      have h3 := h.way il (i := 3) (by decide)
      rw [enC_l, ih.1] at h3
      exact h3
    clear ih il
    generalize s.ws.at i = e at *
    go_enter Tryd.func5, Tryd.ntmps5
    go_wp2_with (fail); refine (awake13_c _ HT.out).mono ?_; rintro e w' ⟨rfl, hE⟩; (try replace hb := hb.ext hE); (try replace h1 := h1.ext hE); (try replace h2 := h2.ext hE); (try replace h3 := h3.ext hE); (try replace HT := Lib.hid (HT.out.ext hE)); (try replace HE := Lib.hid (HE.out.trans hE))
    clear hE
    go_wp2_with ((refine wpList_load_blk (by rfl) 29 _ rfl rfl (by first | exact h1 | exact h2 | exact h3 | exact hb) Tryd.underlying29 rfl (by kernel_rfl) ?_)); refine (rrs _).mono ?_; rintro e w' ⟨rfl, hE⟩; (try replace hb := hb.ext hE); (try replace h1 := h1.ext hE); (try replace h2 := h2.ext hE); (try replace h3 := h3.ext hE); (try replace HT := Lib.hid (HT.out.ext hE)); (try replace HE := Lib.hid (HE.out.trans hE))
    clear hE
    go_wp2_with (fail); refine (calls_ext (cis _)).mono ?_; rintro e w' ⟨rfl, hE⟩; (try replace hb := hb.ext hE); (try replace h1 := h1.ext hE); (try replace h2 := h2.ext hE); (try replace h3 := h3.ext hE); (try replace HT := Lib.hid (HT.out.ext hE)); (try replace HE := Lib.hid (HE.out.trans hE))
    clear hE
    go_wp2_with ((refine wpList_load_blk (by rfl) 29 _ rfl rfl (by first | exact h1 | exact h2 | exact h3 | exact hb) Tryd.underlying29 rfl (by kernel_rfl) ?_)); refine (cfi _ HT.out).mono ?_; rintro e w' ⟨rfl, hE⟩; (try replace hb := hb.ext hE); (try replace h1 := h1.ext hE); (try replace h2 := h2.ext hE); (try replace h3 := h3.ext hE); (try replace HT := Lib.hid (HT.out.ext hE)); (try replace HE := Lib.hid (HE.out.trans hE))
    clear hE cfi
    go_wp2_with ((refine wpList_load_blk (by rfl) 29 _ rfl rfl (by first | exact h1 | exact h2 | exact h3 | exact hb) Tryd.underlying29 rfl (by kernel_rfl) ?_)); refine (cus _ HT.out).mono ?_; rintro e w' ⟨rfl, hE⟩; (try replace hb := hb.ext hE); (try replace h1 := h1.ext hE); (try replace h2 := h2.ext hE); (try replace h3 := h3.ext hE); (try replace HT := Lib.hid (HT.out.ext hE)); (try replace HE := Lib.hid (HE.out.trans hE))
    clear hE cus
    have h2 := Blk.new w' 29 (stC u)
    have hE := (Ext.refl w').alloc (.cells (stC u) 29)
    replace h1 := h1.ext hE
    replace HT := Lib.hid (HT.out.ext hE)
    replace HE := Lib.hid (HE.out.trans hE)
    clear hE
    have x3 := hx3 _ h1
    go_wp2_with (first | (refine wpList_store_new rfl 29 _ _ rfl (stC _) _ _ rfl rfl (st_info _) (by simp [stC_size]) (stC_one _) ?_) | (refine wpList_load_part (by rfl) 27 _ rfl rfl h2 (hup) Tryd.underlying27 rfl (ws_info _) ?_) | (refine wpList_load_part (by rfl) 27 _ rfl rfl h1 (stC_ws s) Tryd.underlying27 rfl (ws_info _) ?_) | (refine wpList_cmp (op := .neq) (by rfl) 27 rfl rfl rfl (ws_guard) (hnw) ?_) | (refine wpList_load_part (by rfl) 26 _ rfl rfl h1 (hat) Tryd.underlying26 rfl (en_info _) ?_))
    generalize w'.heap.size = g2 at *
    generalize w'.alloc (.cells (stC u) 29) = W1 at *
    refine (cmi _).mono ?_
    rintro e1 w2 ⟨rfl, hE⟩
    (try replace hb := hb.ext hE); (try replace h1 := h1.ext hE); (try replace h2 := h2.ext hE); (try replace h3 := h3.ext hE); (try replace HT := Lib.hid (HT.out.ext hE)); (try replace HE := Lib.hid (HE.out.trans hE))
    clear hE x3 hx3 cmi hat h2 hup hnw hsz rrs cis
    go_wp2_with ((refine wpList_load_blk (by rfl) 29 _ rfl rfl (by first | exact h1 | exact h2 | exact h3 | exact hb) Tryd.underlying29 rfl (by kernel_rfl) ?_)); refine (cdi _).mono ?_; rintro e w' ⟨rfl, hE⟩; (try replace hb := hb.ext hE); (try replace h1 := h1.ext hE); (try replace h2 := h2.ext hE); (try replace h3 := h3.ext hE); (try replace HT := Lib.hid (HT.out.ext hE)); (try replace HE := Lib.hid (HE.out.trans hE))
    clear hE cdi
    go_wp2_with ((refine wpList_load_blk (by rfl) 29 _ rfl rfl (by first | exact h1 | exact h2 | exact h3 | exact hb) Tryd.underlying29 rfl (by kernel_rfl) ?_)); refine (cfj _ HT.out).mono ?_; rintro e w' ⟨rfl, hE⟩; (try replace hb := hb.ext hE); (try replace h1 := h1.ext hE); (try replace h2 := h2.ext hE); (try replace h3 := h3.ext hE); (try replace HT := Lib.hid (HT.out.ext hE)); (try replace HE := Lib.hid (HE.out.trans hE))
    clear hE cfj
    cases B
    · clear hfd
      go_wp2
      go_ret
      exact ⟨rfl, HE.out⟩
    · rw [Bool.not_true, Bool.false_or] at hfd
      replace hfd : decide (i < j) = true := by simpa using hfd
      go_wp2
      go_ret
      exact ⟨rfl, HE.out⟩
end Go.Proofs.YtbncaghcokmefaaDoor
