/- PermLess. -/
import Derived.Test.YthmfgiodidaofaaLaw08a
namespace Go.Proofs.Ythmfgiodidaofaa
open Go.ChangeShapes Go.WideShapes Go.ChangeAt Go.RowKit
set_option linter.unusedVariables false
set_option linter.unusedSimpArgs false

set_option maxRecDepth 100000 in
set_option maxHeartbeats 4000000 in
theorem PermLess_w (a b c : Nat) (ha : a < 256) (hb : b < 256) (hc : c < 256) (w : World) :
    Calls Try.prog 5 #[.int .u8 (a : Int), .int .u8 (b : Int), .int .u8 (c : Int)] w fun e w' => e = .returned (.bool true) ∧ Ext w w' := by
  have hn1 := number_c a ha
  have hn2 := number_c b hb
  have hn3 := number_c c hc
  obtain ⟨p, hp⟩ : ∃ p, p = nmP a := ⟨_, rfl⟩
  obtain ⟨q, hq⟩ : ∃ q, q = nmP b := ⟨_, rfl⟩
  obtain ⟨r, hr⟩ : ∃ r, r = nmP c := ⟨_, rfl⟩
  rw [← hp] at hn1
  rw [← hq] at hn2
  rw [← hr] at hn3
  clear hp hq hr ha hb hc
  have hpp := less8_c p p
  rw [less_self] at hpp
  have hpq := less8_c p q
  have hqp := less8_c q p
  have hqr := less8_c q r
  have hpr := less8_c p r
  have htr := fun h h' => less_trans (p := p) (q := q) (r := r) h h'
  have han := fun h h' => less_anti (p := p) (q := q) h h'
  have hg := pm_guard
  have hne : p = q → ∀ w, (binOp .neq 23 (.agg (pmC p)) (.agg (pmC q))).run Try.prog w = .ok (.bool false) w := fun h w => by
    rw [neq_pm, decide_eq_true h]; rfl
  have HE := Lib.hid (Ext.refl w)
  go_enter Try.func5, Try.ntmps5
  go_wp2_with fail; refine (awake8_c _).mono ?_; rintro e w1 ⟨rfl, hE⟩; replace HE := Lib.hid (HE.out.trans hE)
  clear hE
  go_wp2_with fail; refine (hn1 _).mono ?_; rintro e w2 ⟨rfl, hE⟩; replace HE := Lib.hid (HE.out.trans hE)
  clear hE hn1
  replace HE := Lib.hid (HE.out.alloc (.cells (pmC p) 23))
  have h1 := Blk.new w2 23 (pmC p)
  go_wp2_with (refine wpList_store_new rfl 23 _ _ rfl (pmC _) _ _ rfl rfl (pm_info _) (by simp [pmC_size]) (pmC_one _) ?_)
  refine (hn2 _).mono ?_
  rintro e w3 ⟨rfl, hE⟩
  replace HE := Lib.hid ((HE.out.trans hE).alloc (.cells (pmC q) 23))
  replace h1 := (h1.ext hE).alloc (.cells (pmC q) 23)
  have h2 := Blk.new w3 23 (pmC q)
  clear hE hn2
  go_wp2_with (refine wpList_store_new rfl 23 _ _ rfl (pmC _) _ _ rfl rfl (pm_info _) (by simp [pmC_size]) (pmC_one _) ?_)
  refine (hn3 _).mono ?_
  rintro e w4 ⟨rfl, hE⟩
  replace HE := Lib.hid ((HE.out.trans hE).alloc (.cells (pmC r) 23))
  replace h1 := (h1.ext hE).alloc (.cells (pmC r) 23)
  replace h2 := (h2.ext hE).alloc (.cells (pmC r) 23)
  have h3 := Blk.new w4 23 (pmC r)
  clear hE hn3
  go_wp2_with first | (refine wpList_store_new rfl 23 _ _ rfl (pmC _) _ _ rfl rfl (pm_info _) (by simp [pmC_size]) (pmC_one _) ?_) | (refine wpList_load_blk (by rfl) 23 _ rfl rfl (by assumption) Try.underlying23 rfl (by kernel_rfl) ?_)
  refine (hpp _).mono ?_
  rintro e w9 ⟨rfl, hE⟩
  replace HE := Lib.hid (HE.out.trans hE)
  replace h1 := h1.ext hE
  replace h2 := h2.ext hE
  replace h3 := h3.ext hE
  clear hE
  go_wp2_with first | (refine wpList_load_blk (by rfl) 23 _ rfl rfl (by assumption) Try.underlying23 rfl (by kernel_rfl) ?_)
  rcases e1 : pmLess p q with _ | _
  · rw [e1] at hpq
    refine (hpq _).mono ?_
    rintro e w9 ⟨rfl, hE⟩
    replace HE := Lib.hid (HE.out.trans hE)
    replace h1 := h1.ext hE
    replace h2 := h2.ext hE
    replace h3 := h3.ext hE
    clear hE
    go_wp2_with first | (refine wpList_load_blk (by rfl) 23 _ rfl rfl (by assumption) Try.underlying23 rfl (by kernel_rfl) ?_)
    rcases e2 : pmLess q r with _ | _
    · rw [e2] at hqr
      refine (hqr _).mono ?_
      rintro e w9 ⟨rfl, hE⟩
      replace HE := Lib.hid (HE.out.trans hE)
      replace h1 := h1.ext hE
      replace h2 := h2.ext hE
      replace h3 := h3.ext hE
      clear hE
      go_wp2_with first | (refine wpList_load_blk (by rfl) 23 _ rfl rfl (by assumption) Try.underlying23 rfl (by kernel_rfl) ?_)
      rw [htr e1 e2] at hpr
      refine (hpr _).mono ?_
      rintro e w9 ⟨rfl, hE⟩
      replace HE := Lib.hid (HE.out.trans hE)
      replace h1 := h1.ext hE
      replace h2 := h2.ext hE
      replace h3 := h3.ext hE
      clear hE
      go_wp2_with first | (refine wpList_load_blk (by rfl) 23 _ rfl rfl (by assumption) Try.underlying23 rfl (by kernel_rfl) ?_)
      refine (hpq _).mono ?_
      rintro e w9 ⟨rfl, hE⟩
      replace HE := Lib.hid (HE.out.trans hE)
      replace h1 := h1.ext hE
      replace h2 := h2.ext hE
      replace h3 := h3.ext hE
      clear hE
      go_wp2_with first | (refine wpList_load_blk (by rfl) 23 _ rfl rfl (by assumption) Try.underlying23 rfl (by kernel_rfl) ?_)
      rcases e3 : pmLess q p with _ | _
      · rw [e3] at hqp
        refine (hqp _).mono ?_
        have hq := hne (han e1 e3)
        clear e1 e3 hpp hqp hqr hpr htr han hne
        rintro e w9 ⟨rfl, hE⟩
        replace HE := Lib.hid (HE.out.trans hE)
        replace h1 := h1.ext hE
        replace h2 := h2.ext hE
        replace h3 := h3.ext hE
        clear hE
        go_wp2_with first | (refine wpList_load_blk (by rfl) 23 _ rfl rfl (by assumption) Try.underlying23 rfl (by kernel_rfl) ?_)
        clear hpq hq hg
        clear h3
        replace h1 := h1
        go_loopw [10, 11] (fun l c wr => ∃ (b : Bool) (n : Nat), n ≤ 24 ∧ l = .bool b ∧ c = .int .u8 n ∧ Blk wr w2.heap.size 23 (pmC p) ∧ Blk wr w3.heap.size 23 (pmC q) ∧ Ext w wr ∧ Hid (b = true → pmLess p q = true)) (fun _ c _ => 24 - (intOf c).toNat)
        case atStart => exact ⟨false, 0, by omega, rfl, rfl, h1, h2, HE.out, Lib.hid (by simp)⟩
        case round =>
          clear h1 h2 HE
          obtain ⟨b, n, hn, rfl, rfl, h1, h2, HE, hb⟩ := hrel
          by_cases hlt : n < 24
          · obtain ⟨Y, hY⟩ : ∃ Y, Y = nmW n := ⟨_, rfl⟩
            have hyis : wyIs Y = true := by rw [hY]; exact nmW_is n
            have hway := way_c n (by omega)
            rw [← hY] at hway
            clear hY
            have haq := al8_c q Y hyis
            have hap := al8_c p Y hyis
            have hla := fun h h' => less_al (p := p) (q := q) (w := Y) h h'
            generalize pmAl q Y = aq at haq hla
            generalize pmAl p Y = ap at hap hla
            clear hyis
            replace HE := Lib.hid HE.drew
            replace h1 := h1.drew
            replace h2 := h2.drew
            cases b
            · cases aq
              · skip
                go_wp2_with fail
                refine wp_region_seq [(0, false), (1, false), (2, false), (3, false), (4, true), (5, true), (6, false), (7, false), (8, false), (9, true), (10, true), (11, false), (12, false), (13, false), (14, false)] Ext (by kernel_rfl) (by kernel_rfl) Ext.refl (fun _ _ _ => Ext.trans) ?_; simp only [List.map, nth_z, nth_s]
                (repeat (first | (refine seq_skip (by rfl) ?_; intro K hK; simp only [Act.put, List.setIfInBounds_toArray, List.set_cons_zero, List.set_cons_succ]; refine hK _ ?_; clear hK K) | (refine seq_skipc (by rfl) ?_; intro K hK; simp only [Act.put, List.setIfInBounds_toArray, List.set_cons_zero, List.set_cons_succ]; refine hK _ ?_; clear hK K) | (refine seq_read (by rfl) (by rfl) ?_; intro K hK; go_big_quiet_op; first | go_big_quiet_on | (refine ⟨_, fun _ _ => rfl, ?_⟩; go_big_quiet_on))))
                refine seq_load rfl rfl (fun x hx => Blk.ext (h2) hx) rfl Try.underlying23 (by kernel_rfl) (by rfl) ?_; intro K hK; simp only [Act.put, List.setIfInBounds_toArray, List.set_cons_zero, List.set_cons_succ]; refine hK _ ?_; clear hK K
                (repeat (first | (refine seq_skip (by rfl) ?_; intro K hK; simp only [Act.put, List.setIfInBounds_toArray, List.set_cons_zero, List.set_cons_succ]; refine hK _ ?_; clear hK K) | (refine seq_skipc (by rfl) ?_; intro K hK; simp only [Act.put, List.setIfInBounds_toArray, List.set_cons_zero, List.set_cons_succ]; refine hK _ ?_; clear hK K) | (refine seq_read (by rfl) (by rfl) ?_; intro K hK; go_big_quiet_op; first | go_big_quiet_on | (refine ⟨_, fun _ _ => rfl, ?_⟩; go_big_quiet_on))))
                refine seq_call (hway _) rfl Try.func17 (by kernel_rfl) (by kernel_rfl) (by rfl) (by rfl) ?_; intro K hK; rintro e w' ⟨rfl, hE⟩; refine ⟨_, rfl, hE, ?_⟩; simp only [Act.put, List.setIfInBounds_toArray, List.set_cons_zero, List.set_cons_succ]; refine hK _ _ ?_; clear hK K; replace HE := Lib.hid (HE.out.trans hE)
                replace h1 := h1.ext hE
                replace h2 := h2.ext hE
                clear hE
                refine seq_call (haq _) rfl Try.func14 (by kernel_rfl) (by kernel_rfl) (by rfl) (by rfl) ?_; intro K hK; rintro e w' ⟨rfl, hE⟩; refine ⟨_, rfl, hE, ?_⟩; simp only [Act.put, List.setIfInBounds_toArray, List.set_cons_zero, List.set_cons_succ]; refine hK _ _ ?_; clear hK K; replace HE := Lib.hid (HE.out.trans hE)
                replace h1 := h1.ext hE
                replace h2 := h2.ext hE
                clear hE
                (repeat (first | (refine seq_skip (by rfl) ?_; intro K hK; simp only [Act.put, List.setIfInBounds_toArray, List.set_cons_zero, List.set_cons_succ]; refine hK _ ?_; clear hK K) | (refine seq_skipc (by rfl) ?_; intro K hK; simp only [Act.put, List.setIfInBounds_toArray, List.set_cons_zero, List.set_cons_succ]; refine hK _ ?_; clear hK K) | (refine seq_read (by rfl) (by rfl) ?_; intro K hK; go_big_quiet_op; first | go_big_quiet_on | (refine ⟨_, fun _ _ => rfl, ?_⟩; go_big_quiet_on))))
                refine seq_done ?_
                go_wp2
                go_roundw
                case rel => exact ⟨false, n + 1, by omega, rfl, by go_num, h1, h2, HE.out, Lib.hid (by simp)⟩
                case measure => simp [intOf]; omega
              · cases ap
                · have hl : Hid (true = true → pmLess p q = true) := Lib.hid (fun _ => by
                    rcases hh : pmLess p q with _ | _
                    · exact absurd (hla hh rfl) (by simp)
                    · rfl)
                  clear hla
                  go_wp2_with fail
                  refine wp_region_seq [(0, false), (1, false), (2, false), (3, false), (4, true), (5, true), (6, false), (7, false), (8, false), (9, true), (10, true), (11, false), (12, false), (13, false), (14, false)] Ext (by kernel_rfl) (by kernel_rfl) Ext.refl (fun _ _ _ => Ext.trans) ?_; simp only [List.map, nth_z, nth_s]
                  (repeat (first | (refine seq_skip (by rfl) ?_; intro K hK; simp only [Act.put, List.setIfInBounds_toArray, List.set_cons_zero, List.set_cons_succ]; refine hK _ ?_; clear hK K) | (refine seq_skipc (by rfl) ?_; intro K hK; simp only [Act.put, List.setIfInBounds_toArray, List.set_cons_zero, List.set_cons_succ]; refine hK _ ?_; clear hK K) | (refine seq_read (by rfl) (by rfl) ?_; intro K hK; go_big_quiet_op; first | go_big_quiet_on | (refine ⟨_, fun _ _ => rfl, ?_⟩; go_big_quiet_on))))
                  refine seq_load rfl rfl (fun x hx => Blk.ext (h2) hx) rfl Try.underlying23 (by kernel_rfl) (by rfl) ?_; intro K hK; simp only [Act.put, List.setIfInBounds_toArray, List.set_cons_zero, List.set_cons_succ]; refine hK _ ?_; clear hK K
                  (repeat (first | (refine seq_skip (by rfl) ?_; intro K hK; simp only [Act.put, List.setIfInBounds_toArray, List.set_cons_zero, List.set_cons_succ]; refine hK _ ?_; clear hK K) | (refine seq_skipc (by rfl) ?_; intro K hK; simp only [Act.put, List.setIfInBounds_toArray, List.set_cons_zero, List.set_cons_succ]; refine hK _ ?_; clear hK K) | (refine seq_read (by rfl) (by rfl) ?_; intro K hK; go_big_quiet_op; first | go_big_quiet_on | (refine ⟨_, fun _ _ => rfl, ?_⟩; go_big_quiet_on))))
                  refine seq_call (hway _) rfl Try.func17 (by kernel_rfl) (by kernel_rfl) (by rfl) (by rfl) ?_; intro K hK; rintro e w' ⟨rfl, hE⟩; refine ⟨_, rfl, hE, ?_⟩; simp only [Act.put, List.setIfInBounds_toArray, List.set_cons_zero, List.set_cons_succ]; refine hK _ _ ?_; clear hK K; replace HE := Lib.hid (HE.out.trans hE)
                  replace h1 := h1.ext hE
                  replace h2 := h2.ext hE
                  clear hE
                  refine seq_call (haq _) rfl Try.func14 (by kernel_rfl) (by kernel_rfl) (by rfl) (by rfl) ?_; intro K hK; rintro e w' ⟨rfl, hE⟩; refine ⟨_, rfl, hE, ?_⟩; simp only [Act.put, List.setIfInBounds_toArray, List.set_cons_zero, List.set_cons_succ]; refine hK _ _ ?_; clear hK K; replace HE := Lib.hid (HE.out.trans hE)
                  replace h1 := h1.ext hE
                  replace h2 := h2.ext hE
                  clear hE
                  (repeat (first | (refine seq_skip (by rfl) ?_; intro K hK; simp only [Act.put, List.setIfInBounds_toArray, List.set_cons_zero, List.set_cons_succ]; refine hK _ ?_; clear hK K) | (refine seq_skipc (by rfl) ?_; intro K hK; simp only [Act.put, List.setIfInBounds_toArray, List.set_cons_zero, List.set_cons_succ]; refine hK _ ?_; clear hK K) | (refine seq_read (by rfl) (by rfl) ?_; intro K hK; go_big_quiet_op; first | go_big_quiet_on | (refine ⟨_, fun _ _ => rfl, ?_⟩; go_big_quiet_on))))
                  refine seq_load rfl rfl (fun x hx => Blk.ext (h1) hx) rfl Try.underlying23 (by kernel_rfl) (by rfl) ?_; intro K hK; simp only [Act.put, List.setIfInBounds_toArray, List.set_cons_zero, List.set_cons_succ]; refine hK _ ?_; clear hK K
                  (repeat (first | (refine seq_skip (by rfl) ?_; intro K hK; simp only [Act.put, List.setIfInBounds_toArray, List.set_cons_zero, List.set_cons_succ]; refine hK _ ?_; clear hK K) | (refine seq_skipc (by rfl) ?_; intro K hK; simp only [Act.put, List.setIfInBounds_toArray, List.set_cons_zero, List.set_cons_succ]; refine hK _ ?_; clear hK K) | (refine seq_read (by rfl) (by rfl) ?_; intro K hK; go_big_quiet_op; first | go_big_quiet_on | (refine ⟨_, fun _ _ => rfl, ?_⟩; go_big_quiet_on))))
                  refine seq_call (hway _) rfl Try.func17 (by kernel_rfl) (by kernel_rfl) (by rfl) (by rfl) ?_; intro K hK; rintro e w' ⟨rfl, hE⟩; refine ⟨_, rfl, hE, ?_⟩; simp only [Act.put, List.setIfInBounds_toArray, List.set_cons_zero, List.set_cons_succ]; refine hK _ _ ?_; clear hK K; replace HE := Lib.hid (HE.out.trans hE)
                  replace h1 := h1.ext hE
                  replace h2 := h2.ext hE
                  clear hE
                  refine seq_call (hap _) rfl Try.func14 (by kernel_rfl) (by kernel_rfl) (by rfl) (by rfl) ?_; intro K hK; rintro e w' ⟨rfl, hE⟩; refine ⟨_, rfl, hE, ?_⟩; simp only [Act.put, List.setIfInBounds_toArray, List.set_cons_zero, List.set_cons_succ]; refine hK _ _ ?_; clear hK K; replace HE := Lib.hid (HE.out.trans hE)
                  replace h1 := h1.ext hE
                  replace h2 := h2.ext hE
                  clear hE
                  (repeat (first | (refine seq_skip (by rfl) ?_; intro K hK; simp only [Act.put, List.setIfInBounds_toArray, List.set_cons_zero, List.set_cons_succ]; refine hK _ ?_; clear hK K) | (refine seq_skipc (by rfl) ?_; intro K hK; simp only [Act.put, List.setIfInBounds_toArray, List.set_cons_zero, List.set_cons_succ]; refine hK _ ?_; clear hK K) | (refine seq_read (by rfl) (by rfl) ?_; intro K hK; go_big_quiet_op; first | go_big_quiet_on | (refine ⟨_, fun _ _ => rfl, ?_⟩; go_big_quiet_on))))
                  refine seq_done ?_
                  go_wp2
                  go_roundw
                  case rel => exact ⟨true, n + 1, by omega, rfl, by go_num, h1, h2, HE.out, Lib.hid (fun _ => hl.out (by trivial))⟩
                  case measure => simp [intOf]; omega
                · clear hla
                  go_wp2_with fail
                  refine wp_region_seq [(0, false), (1, false), (2, false), (3, false), (4, true), (5, true), (6, false), (7, false), (8, false), (9, true), (10, true), (11, false), (12, false), (13, false), (14, false)] Ext (by kernel_rfl) (by kernel_rfl) Ext.refl (fun _ _ _ => Ext.trans) ?_; simp only [List.map, nth_z, nth_s]
                  (repeat (first | (refine seq_skip (by rfl) ?_; intro K hK; simp only [Act.put, List.setIfInBounds_toArray, List.set_cons_zero, List.set_cons_succ]; refine hK _ ?_; clear hK K) | (refine seq_skipc (by rfl) ?_; intro K hK; simp only [Act.put, List.setIfInBounds_toArray, List.set_cons_zero, List.set_cons_succ]; refine hK _ ?_; clear hK K) | (refine seq_read (by rfl) (by rfl) ?_; intro K hK; go_big_quiet_op; first | go_big_quiet_on | (refine ⟨_, fun _ _ => rfl, ?_⟩; go_big_quiet_on))))
                  refine seq_load rfl rfl (fun x hx => Blk.ext (h2) hx) rfl Try.underlying23 (by kernel_rfl) (by rfl) ?_; intro K hK; simp only [Act.put, List.setIfInBounds_toArray, List.set_cons_zero, List.set_cons_succ]; refine hK _ ?_; clear hK K
                  (repeat (first | (refine seq_skip (by rfl) ?_; intro K hK; simp only [Act.put, List.setIfInBounds_toArray, List.set_cons_zero, List.set_cons_succ]; refine hK _ ?_; clear hK K) | (refine seq_skipc (by rfl) ?_; intro K hK; simp only [Act.put, List.setIfInBounds_toArray, List.set_cons_zero, List.set_cons_succ]; refine hK _ ?_; clear hK K) | (refine seq_read (by rfl) (by rfl) ?_; intro K hK; go_big_quiet_op; first | go_big_quiet_on | (refine ⟨_, fun _ _ => rfl, ?_⟩; go_big_quiet_on))))
                  refine seq_call (hway _) rfl Try.func17 (by kernel_rfl) (by kernel_rfl) (by rfl) (by rfl) ?_; intro K hK; rintro e w' ⟨rfl, hE⟩; refine ⟨_, rfl, hE, ?_⟩; simp only [Act.put, List.setIfInBounds_toArray, List.set_cons_zero, List.set_cons_succ]; refine hK _ _ ?_; clear hK K; replace HE := Lib.hid (HE.out.trans hE)
                  replace h1 := h1.ext hE
                  replace h2 := h2.ext hE
                  clear hE
                  refine seq_call (haq _) rfl Try.func14 (by kernel_rfl) (by kernel_rfl) (by rfl) (by rfl) ?_; intro K hK; rintro e w' ⟨rfl, hE⟩; refine ⟨_, rfl, hE, ?_⟩; simp only [Act.put, List.setIfInBounds_toArray, List.set_cons_zero, List.set_cons_succ]; refine hK _ _ ?_; clear hK K; replace HE := Lib.hid (HE.out.trans hE)
                  replace h1 := h1.ext hE
                  replace h2 := h2.ext hE
                  clear hE
                  (repeat (first | (refine seq_skip (by rfl) ?_; intro K hK; simp only [Act.put, List.setIfInBounds_toArray, List.set_cons_zero, List.set_cons_succ]; refine hK _ ?_; clear hK K) | (refine seq_skipc (by rfl) ?_; intro K hK; simp only [Act.put, List.setIfInBounds_toArray, List.set_cons_zero, List.set_cons_succ]; refine hK _ ?_; clear hK K) | (refine seq_read (by rfl) (by rfl) ?_; intro K hK; go_big_quiet_op; first | go_big_quiet_on | (refine ⟨_, fun _ _ => rfl, ?_⟩; go_big_quiet_on))))
                  refine seq_load rfl rfl (fun x hx => Blk.ext (h1) hx) rfl Try.underlying23 (by kernel_rfl) (by rfl) ?_; intro K hK; simp only [Act.put, List.setIfInBounds_toArray, List.set_cons_zero, List.set_cons_succ]; refine hK _ ?_; clear hK K
                  (repeat (first | (refine seq_skip (by rfl) ?_; intro K hK; simp only [Act.put, List.setIfInBounds_toArray, List.set_cons_zero, List.set_cons_succ]; refine hK _ ?_; clear hK K) | (refine seq_skipc (by rfl) ?_; intro K hK; simp only [Act.put, List.setIfInBounds_toArray, List.set_cons_zero, List.set_cons_succ]; refine hK _ ?_; clear hK K) | (refine seq_read (by rfl) (by rfl) ?_; intro K hK; go_big_quiet_op; first | go_big_quiet_on | (refine ⟨_, fun _ _ => rfl, ?_⟩; go_big_quiet_on))))
                  refine seq_call (hway _) rfl Try.func17 (by kernel_rfl) (by kernel_rfl) (by rfl) (by rfl) ?_; intro K hK; rintro e w' ⟨rfl, hE⟩; refine ⟨_, rfl, hE, ?_⟩; simp only [Act.put, List.setIfInBounds_toArray, List.set_cons_zero, List.set_cons_succ]; refine hK _ _ ?_; clear hK K; replace HE := Lib.hid (HE.out.trans hE)
                  replace h1 := h1.ext hE
                  replace h2 := h2.ext hE
                  clear hE
                  refine seq_call (hap _) rfl Try.func14 (by kernel_rfl) (by kernel_rfl) (by rfl) (by rfl) ?_; intro K hK; rintro e w' ⟨rfl, hE⟩; refine ⟨_, rfl, hE, ?_⟩; simp only [Act.put, List.setIfInBounds_toArray, List.set_cons_zero, List.set_cons_succ]; refine hK _ _ ?_; clear hK K; replace HE := Lib.hid (HE.out.trans hE)
                  replace h1 := h1.ext hE
                  replace h2 := h2.ext hE
                  clear hE
                  (repeat (first | (refine seq_skip (by rfl) ?_; intro K hK; simp only [Act.put, List.setIfInBounds_toArray, List.set_cons_zero, List.set_cons_succ]; refine hK _ ?_; clear hK K) | (refine seq_skipc (by rfl) ?_; intro K hK; simp only [Act.put, List.setIfInBounds_toArray, List.set_cons_zero, List.set_cons_succ]; refine hK _ ?_; clear hK K) | (refine seq_read (by rfl) (by rfl) ?_; intro K hK; go_big_quiet_op; first | go_big_quiet_on | (refine ⟨_, fun _ _ => rfl, ?_⟩; go_big_quiet_on))))
                  refine seq_done ?_
                  go_wp2
                  go_roundw
                  case rel => exact ⟨false, n + 1, by omega, rfl, by go_num, h1, h2, HE.out, Lib.hid (by simp)⟩
                  case measure => simp [intOf]; omega
            · clear hla
              go_wp2_with fail
              refine wp_region_seq [(0, false), (1, false), (2, false), (3, false), (4, true), (5, true), (6, false), (7, false), (8, false), (9, true), (10, true), (11, false), (12, false), (13, false), (14, false)] Ext (by kernel_rfl) (by kernel_rfl) Ext.refl (fun _ _ _ => Ext.trans) ?_; simp only [List.map, nth_z, nth_s]
              (repeat (first | (refine seq_skip (by rfl) ?_; intro K hK; simp only [Act.put, List.setIfInBounds_toArray, List.set_cons_zero, List.set_cons_succ]; refine hK _ ?_; clear hK K) | (refine seq_skipc (by rfl) ?_; intro K hK; simp only [Act.put, List.setIfInBounds_toArray, List.set_cons_zero, List.set_cons_succ]; refine hK _ ?_; clear hK K) | (refine seq_read (by rfl) (by rfl) ?_; intro K hK; go_big_quiet_op; first | go_big_quiet_on | (refine ⟨_, fun _ _ => rfl, ?_⟩; go_big_quiet_on))))
              refine seq_done ?_
              go_wp2
              go_roundw
              case rel => exact ⟨true, n + 1, by omega, rfl, by go_num, h1, h2, HE.out, Lib.hid (fun _ => hb.out (by trivial))⟩
              case measure => simp [intOf]; omega
          · obtain rfl : n = 24 := by omega
            replace HE := Lib.hid HE
            cases b
            · go_wp2
              go_ret
              exact ⟨rfl, HE.out⟩
            · have hl := less8_c p q
              rw [hb.out rfl] at hl
              go_wp2_with first | (refine wpList_load_blk (by rfl) 23 _ rfl rfl (by assumption) Try.underlying23 rfl (by kernel_rfl) ?_)
              refine (hl _).mono ?_
              rintro e w9 ⟨rfl, hE⟩
              replace HE := Lib.hid (HE.out.trans hE)
              clear hE
              go_wp2
              go_ret
              exact ⟨rfl, HE.out⟩
      · rw [e3] at hqp
        refine (hqp _).mono ?_
        clear e1 e3 hpp hqr hpr htr han hne
        rintro e w9 ⟨rfl, hE⟩
        replace HE := Lib.hid (HE.out.trans hE)
        replace h1 := h1.ext hE
        replace h2 := h2.ext hE
        replace h3 := h3.ext hE
        clear hE
        go_wp2_with first | (refine wpList_load_blk (by rfl) 23 _ rfl rfl (by assumption) Try.underlying23 rfl (by kernel_rfl) ?_)
        clear hpq hqp
        clear h3
        replace h1 := h1
        go_loopw [10, 11] (fun l c wr => ∃ (b : Bool) (n : Nat), n ≤ 24 ∧ l = .bool b ∧ c = .int .u8 n ∧ Blk wr w2.heap.size 23 (pmC p) ∧ Blk wr w3.heap.size 23 (pmC q) ∧ Ext w wr ∧ Hid (b = true → pmLess p q = true)) (fun _ c _ => 24 - (intOf c).toNat)
        case atStart => exact ⟨false, 0, by omega, rfl, rfl, h1, h2, HE.out, Lib.hid (by simp)⟩
        case round =>
          clear h1 h2 HE
          obtain ⟨b, n, hn, rfl, rfl, h1, h2, HE, hb⟩ := hrel
          by_cases hlt : n < 24
          · obtain ⟨Y, hY⟩ : ∃ Y, Y = nmW n := ⟨_, rfl⟩
            have hyis : wyIs Y = true := by rw [hY]; exact nmW_is n
            have hway := way_c n (by omega)
            rw [← hY] at hway
            clear hY
            have haq := al8_c q Y hyis
            have hap := al8_c p Y hyis
            have hla := fun h h' => less_al (p := p) (q := q) (w := Y) h h'
            generalize pmAl q Y = aq at haq hla
            generalize pmAl p Y = ap at hap hla
            clear hyis
            replace HE := Lib.hid HE.drew
            replace h1 := h1.drew
            replace h2 := h2.drew
            cases b
            · cases aq
              · skip
                go_wp2_with fail
                refine wp_region_seq [(0, false), (1, false), (2, false), (3, false), (4, true), (5, true), (6, false), (7, false), (8, false), (9, true), (10, true), (11, false), (12, false), (13, false), (14, false)] Ext (by kernel_rfl) (by kernel_rfl) Ext.refl (fun _ _ _ => Ext.trans) ?_; simp only [List.map, nth_z, nth_s]
                (repeat (first | (refine seq_skip (by rfl) ?_; intro K hK; simp only [Act.put, List.setIfInBounds_toArray, List.set_cons_zero, List.set_cons_succ]; refine hK _ ?_; clear hK K) | (refine seq_skipc (by rfl) ?_; intro K hK; simp only [Act.put, List.setIfInBounds_toArray, List.set_cons_zero, List.set_cons_succ]; refine hK _ ?_; clear hK K) | (refine seq_read (by rfl) (by rfl) ?_; intro K hK; go_big_quiet_op; first | go_big_quiet_on | (refine ⟨_, fun _ _ => rfl, ?_⟩; go_big_quiet_on))))
                refine seq_load rfl rfl (fun x hx => Blk.ext (h2) hx) rfl Try.underlying23 (by kernel_rfl) (by rfl) ?_; intro K hK; simp only [Act.put, List.setIfInBounds_toArray, List.set_cons_zero, List.set_cons_succ]; refine hK _ ?_; clear hK K
                (repeat (first | (refine seq_skip (by rfl) ?_; intro K hK; simp only [Act.put, List.setIfInBounds_toArray, List.set_cons_zero, List.set_cons_succ]; refine hK _ ?_; clear hK K) | (refine seq_skipc (by rfl) ?_; intro K hK; simp only [Act.put, List.setIfInBounds_toArray, List.set_cons_zero, List.set_cons_succ]; refine hK _ ?_; clear hK K) | (refine seq_read (by rfl) (by rfl) ?_; intro K hK; go_big_quiet_op; first | go_big_quiet_on | (refine ⟨_, fun _ _ => rfl, ?_⟩; go_big_quiet_on))))
                refine seq_call (hway _) rfl Try.func17 (by kernel_rfl) (by kernel_rfl) (by rfl) (by rfl) ?_; intro K hK; rintro e w' ⟨rfl, hE⟩; refine ⟨_, rfl, hE, ?_⟩; simp only [Act.put, List.setIfInBounds_toArray, List.set_cons_zero, List.set_cons_succ]; refine hK _ _ ?_; clear hK K; replace HE := Lib.hid (HE.out.trans hE)
                replace h1 := h1.ext hE
                replace h2 := h2.ext hE
                clear hE
                refine seq_call (haq _) rfl Try.func14 (by kernel_rfl) (by kernel_rfl) (by rfl) (by rfl) ?_; intro K hK; rintro e w' ⟨rfl, hE⟩; refine ⟨_, rfl, hE, ?_⟩; simp only [Act.put, List.setIfInBounds_toArray, List.set_cons_zero, List.set_cons_succ]; refine hK _ _ ?_; clear hK K; replace HE := Lib.hid (HE.out.trans hE)
                replace h1 := h1.ext hE
                replace h2 := h2.ext hE
                clear hE
                (repeat (first | (refine seq_skip (by rfl) ?_; intro K hK; simp only [Act.put, List.setIfInBounds_toArray, List.set_cons_zero, List.set_cons_succ]; refine hK _ ?_; clear hK K) | (refine seq_skipc (by rfl) ?_; intro K hK; simp only [Act.put, List.setIfInBounds_toArray, List.set_cons_zero, List.set_cons_succ]; refine hK _ ?_; clear hK K) | (refine seq_read (by rfl) (by rfl) ?_; intro K hK; go_big_quiet_op; first | go_big_quiet_on | (refine ⟨_, fun _ _ => rfl, ?_⟩; go_big_quiet_on))))
                refine seq_done ?_
                go_wp2
                go_roundw
                case rel => exact ⟨false, n + 1, by omega, rfl, by go_num, h1, h2, HE.out, Lib.hid (by simp)⟩
                case measure => simp [intOf]; omega
              · cases ap
                · have hl : Hid (true = true → pmLess p q = true) := Lib.hid (fun _ => by
                    rcases hh : pmLess p q with _ | _
                    · exact absurd (hla hh rfl) (by simp)
                    · rfl)
                  clear hla
                  go_wp2_with fail
                  refine wp_region_seq [(0, false), (1, false), (2, false), (3, false), (4, true), (5, true), (6, false), (7, false), (8, false), (9, true), (10, true), (11, false), (12, false), (13, false), (14, false)] Ext (by kernel_rfl) (by kernel_rfl) Ext.refl (fun _ _ _ => Ext.trans) ?_; simp only [List.map, nth_z, nth_s]
                  (repeat (first | (refine seq_skip (by rfl) ?_; intro K hK; simp only [Act.put, List.setIfInBounds_toArray, List.set_cons_zero, List.set_cons_succ]; refine hK _ ?_; clear hK K) | (refine seq_skipc (by rfl) ?_; intro K hK; simp only [Act.put, List.setIfInBounds_toArray, List.set_cons_zero, List.set_cons_succ]; refine hK _ ?_; clear hK K) | (refine seq_read (by rfl) (by rfl) ?_; intro K hK; go_big_quiet_op; first | go_big_quiet_on | (refine ⟨_, fun _ _ => rfl, ?_⟩; go_big_quiet_on))))
                  refine seq_load rfl rfl (fun x hx => Blk.ext (h2) hx) rfl Try.underlying23 (by kernel_rfl) (by rfl) ?_; intro K hK; simp only [Act.put, List.setIfInBounds_toArray, List.set_cons_zero, List.set_cons_succ]; refine hK _ ?_; clear hK K
                  (repeat (first | (refine seq_skip (by rfl) ?_; intro K hK; simp only [Act.put, List.setIfInBounds_toArray, List.set_cons_zero, List.set_cons_succ]; refine hK _ ?_; clear hK K) | (refine seq_skipc (by rfl) ?_; intro K hK; simp only [Act.put, List.setIfInBounds_toArray, List.set_cons_zero, List.set_cons_succ]; refine hK _ ?_; clear hK K) | (refine seq_read (by rfl) (by rfl) ?_; intro K hK; go_big_quiet_op; first | go_big_quiet_on | (refine ⟨_, fun _ _ => rfl, ?_⟩; go_big_quiet_on))))
                  refine seq_call (hway _) rfl Try.func17 (by kernel_rfl) (by kernel_rfl) (by rfl) (by rfl) ?_; intro K hK; rintro e w' ⟨rfl, hE⟩; refine ⟨_, rfl, hE, ?_⟩; simp only [Act.put, List.setIfInBounds_toArray, List.set_cons_zero, List.set_cons_succ]; refine hK _ _ ?_; clear hK K; replace HE := Lib.hid (HE.out.trans hE)
                  replace h1 := h1.ext hE
                  replace h2 := h2.ext hE
                  clear hE
                  refine seq_call (haq _) rfl Try.func14 (by kernel_rfl) (by kernel_rfl) (by rfl) (by rfl) ?_; intro K hK; rintro e w' ⟨rfl, hE⟩; refine ⟨_, rfl, hE, ?_⟩; simp only [Act.put, List.setIfInBounds_toArray, List.set_cons_zero, List.set_cons_succ]; refine hK _ _ ?_; clear hK K; replace HE := Lib.hid (HE.out.trans hE)
                  replace h1 := h1.ext hE
                  replace h2 := h2.ext hE
                  clear hE
                  (repeat (first | (refine seq_skip (by rfl) ?_; intro K hK; simp only [Act.put, List.setIfInBounds_toArray, List.set_cons_zero, List.set_cons_succ]; refine hK _ ?_; clear hK K) | (refine seq_skipc (by rfl) ?_; intro K hK; simp only [Act.put, List.setIfInBounds_toArray, List.set_cons_zero, List.set_cons_succ]; refine hK _ ?_; clear hK K) | (refine seq_read (by rfl) (by rfl) ?_; intro K hK; go_big_quiet_op; first | go_big_quiet_on | (refine ⟨_, fun _ _ => rfl, ?_⟩; go_big_quiet_on))))
                  refine seq_load rfl rfl (fun x hx => Blk.ext (h1) hx) rfl Try.underlying23 (by kernel_rfl) (by rfl) ?_; intro K hK; simp only [Act.put, List.setIfInBounds_toArray, List.set_cons_zero, List.set_cons_succ]; refine hK _ ?_; clear hK K
                  (repeat (first | (refine seq_skip (by rfl) ?_; intro K hK; simp only [Act.put, List.setIfInBounds_toArray, List.set_cons_zero, List.set_cons_succ]; refine hK _ ?_; clear hK K) | (refine seq_skipc (by rfl) ?_; intro K hK; simp only [Act.put, List.setIfInBounds_toArray, List.set_cons_zero, List.set_cons_succ]; refine hK _ ?_; clear hK K) | (refine seq_read (by rfl) (by rfl) ?_; intro K hK; go_big_quiet_op; first | go_big_quiet_on | (refine ⟨_, fun _ _ => rfl, ?_⟩; go_big_quiet_on))))
                  refine seq_call (hway _) rfl Try.func17 (by kernel_rfl) (by kernel_rfl) (by rfl) (by rfl) ?_; intro K hK; rintro e w' ⟨rfl, hE⟩; refine ⟨_, rfl, hE, ?_⟩; simp only [Act.put, List.setIfInBounds_toArray, List.set_cons_zero, List.set_cons_succ]; refine hK _ _ ?_; clear hK K; replace HE := Lib.hid (HE.out.trans hE)
                  replace h1 := h1.ext hE
                  replace h2 := h2.ext hE
                  clear hE
                  refine seq_call (hap _) rfl Try.func14 (by kernel_rfl) (by kernel_rfl) (by rfl) (by rfl) ?_; intro K hK; rintro e w' ⟨rfl, hE⟩; refine ⟨_, rfl, hE, ?_⟩; simp only [Act.put, List.setIfInBounds_toArray, List.set_cons_zero, List.set_cons_succ]; refine hK _ _ ?_; clear hK K; replace HE := Lib.hid (HE.out.trans hE)
                  replace h1 := h1.ext hE
                  replace h2 := h2.ext hE
                  clear hE
                  (repeat (first | (refine seq_skip (by rfl) ?_; intro K hK; simp only [Act.put, List.setIfInBounds_toArray, List.set_cons_zero, List.set_cons_succ]; refine hK _ ?_; clear hK K) | (refine seq_skipc (by rfl) ?_; intro K hK; simp only [Act.put, List.setIfInBounds_toArray, List.set_cons_zero, List.set_cons_succ]; refine hK _ ?_; clear hK K) | (refine seq_read (by rfl) (by rfl) ?_; intro K hK; go_big_quiet_op; first | go_big_quiet_on | (refine ⟨_, fun _ _ => rfl, ?_⟩; go_big_quiet_on))))
                  refine seq_done ?_
                  go_wp2
                  go_roundw
                  case rel => exact ⟨true, n + 1, by omega, rfl, by go_num, h1, h2, HE.out, Lib.hid (fun _ => hl.out (by trivial))⟩
                  case measure => simp [intOf]; omega
                · clear hla
                  go_wp2_with fail
                  refine wp_region_seq [(0, false), (1, false), (2, false), (3, false), (4, true), (5, true), (6, false), (7, false), (8, false), (9, true), (10, true), (11, false), (12, false), (13, false), (14, false)] Ext (by kernel_rfl) (by kernel_rfl) Ext.refl (fun _ _ _ => Ext.trans) ?_; simp only [List.map, nth_z, nth_s]
                  (repeat (first | (refine seq_skip (by rfl) ?_; intro K hK; simp only [Act.put, List.setIfInBounds_toArray, List.set_cons_zero, List.set_cons_succ]; refine hK _ ?_; clear hK K) | (refine seq_skipc (by rfl) ?_; intro K hK; simp only [Act.put, List.setIfInBounds_toArray, List.set_cons_zero, List.set_cons_succ]; refine hK _ ?_; clear hK K) | (refine seq_read (by rfl) (by rfl) ?_; intro K hK; go_big_quiet_op; first | go_big_quiet_on | (refine ⟨_, fun _ _ => rfl, ?_⟩; go_big_quiet_on))))
                  refine seq_load rfl rfl (fun x hx => Blk.ext (h2) hx) rfl Try.underlying23 (by kernel_rfl) (by rfl) ?_; intro K hK; simp only [Act.put, List.setIfInBounds_toArray, List.set_cons_zero, List.set_cons_succ]; refine hK _ ?_; clear hK K
                  (repeat (first | (refine seq_skip (by rfl) ?_; intro K hK; simp only [Act.put, List.setIfInBounds_toArray, List.set_cons_zero, List.set_cons_succ]; refine hK _ ?_; clear hK K) | (refine seq_skipc (by rfl) ?_; intro K hK; simp only [Act.put, List.setIfInBounds_toArray, List.set_cons_zero, List.set_cons_succ]; refine hK _ ?_; clear hK K) | (refine seq_read (by rfl) (by rfl) ?_; intro K hK; go_big_quiet_op; first | go_big_quiet_on | (refine ⟨_, fun _ _ => rfl, ?_⟩; go_big_quiet_on))))
                  refine seq_call (hway _) rfl Try.func17 (by kernel_rfl) (by kernel_rfl) (by rfl) (by rfl) ?_; intro K hK; rintro e w' ⟨rfl, hE⟩; refine ⟨_, rfl, hE, ?_⟩; simp only [Act.put, List.setIfInBounds_toArray, List.set_cons_zero, List.set_cons_succ]; refine hK _ _ ?_; clear hK K; replace HE := Lib.hid (HE.out.trans hE)
                  replace h1 := h1.ext hE
                  replace h2 := h2.ext hE
                  clear hE
                  refine seq_call (haq _) rfl Try.func14 (by kernel_rfl) (by kernel_rfl) (by rfl) (by rfl) ?_; intro K hK; rintro e w' ⟨rfl, hE⟩; refine ⟨_, rfl, hE, ?_⟩; simp only [Act.put, List.setIfInBounds_toArray, List.set_cons_zero, List.set_cons_succ]; refine hK _ _ ?_; clear hK K; replace HE := Lib.hid (HE.out.trans hE)
                  replace h1 := h1.ext hE
                  replace h2 := h2.ext hE
                  clear hE
                  (repeat (first | (refine seq_skip (by rfl) ?_; intro K hK; simp only [Act.put, List.setIfInBounds_toArray, List.set_cons_zero, List.set_cons_succ]; refine hK _ ?_; clear hK K) | (refine seq_skipc (by rfl) ?_; intro K hK; simp only [Act.put, List.setIfInBounds_toArray, List.set_cons_zero, List.set_cons_succ]; refine hK _ ?_; clear hK K) | (refine seq_read (by rfl) (by rfl) ?_; intro K hK; go_big_quiet_op; first | go_big_quiet_on | (refine ⟨_, fun _ _ => rfl, ?_⟩; go_big_quiet_on))))
                  refine seq_load rfl rfl (fun x hx => Blk.ext (h1) hx) rfl Try.underlying23 (by kernel_rfl) (by rfl) ?_; intro K hK; simp only [Act.put, List.setIfInBounds_toArray, List.set_cons_zero, List.set_cons_succ]; refine hK _ ?_; clear hK K
                  (repeat (first | (refine seq_skip (by rfl) ?_; intro K hK; simp only [Act.put, List.setIfInBounds_toArray, List.set_cons_zero, List.set_cons_succ]; refine hK _ ?_; clear hK K) | (refine seq_skipc (by rfl) ?_; intro K hK; simp only [Act.put, List.setIfInBounds_toArray, List.set_cons_zero, List.set_cons_succ]; refine hK _ ?_; clear hK K) | (refine seq_read (by rfl) (by rfl) ?_; intro K hK; go_big_quiet_op; first | go_big_quiet_on | (refine ⟨_, fun _ _ => rfl, ?_⟩; go_big_quiet_on))))
                  refine seq_call (hway _) rfl Try.func17 (by kernel_rfl) (by kernel_rfl) (by rfl) (by rfl) ?_; intro K hK; rintro e w' ⟨rfl, hE⟩; refine ⟨_, rfl, hE, ?_⟩; simp only [Act.put, List.setIfInBounds_toArray, List.set_cons_zero, List.set_cons_succ]; refine hK _ _ ?_; clear hK K; replace HE := Lib.hid (HE.out.trans hE)
                  replace h1 := h1.ext hE
                  replace h2 := h2.ext hE
                  clear hE
                  refine seq_call (hap _) rfl Try.func14 (by kernel_rfl) (by kernel_rfl) (by rfl) (by rfl) ?_; intro K hK; rintro e w' ⟨rfl, hE⟩; refine ⟨_, rfl, hE, ?_⟩; simp only [Act.put, List.setIfInBounds_toArray, List.set_cons_zero, List.set_cons_succ]; refine hK _ _ ?_; clear hK K; replace HE := Lib.hid (HE.out.trans hE)
                  replace h1 := h1.ext hE
                  replace h2 := h2.ext hE
                  clear hE
                  (repeat (first | (refine seq_skip (by rfl) ?_; intro K hK; simp only [Act.put, List.setIfInBounds_toArray, List.set_cons_zero, List.set_cons_succ]; refine hK _ ?_; clear hK K) | (refine seq_skipc (by rfl) ?_; intro K hK; simp only [Act.put, List.setIfInBounds_toArray, List.set_cons_zero, List.set_cons_succ]; refine hK _ ?_; clear hK K) | (refine seq_read (by rfl) (by rfl) ?_; intro K hK; go_big_quiet_op; first | go_big_quiet_on | (refine ⟨_, fun _ _ => rfl, ?_⟩; go_big_quiet_on))))
                  refine seq_done ?_
                  go_wp2
                  go_roundw
                  case rel => exact ⟨false, n + 1, by omega, rfl, by go_num, h1, h2, HE.out, Lib.hid (by simp)⟩
                  case measure => simp [intOf]; omega
            · clear hla
              go_wp2_with fail
              refine wp_region_seq [(0, false), (1, false), (2, false), (3, false), (4, true), (5, true), (6, false), (7, false), (8, false), (9, true), (10, true), (11, false), (12, false), (13, false), (14, false)] Ext (by kernel_rfl) (by kernel_rfl) Ext.refl (fun _ _ _ => Ext.trans) ?_; simp only [List.map, nth_z, nth_s]
              (repeat (first | (refine seq_skip (by rfl) ?_; intro K hK; simp only [Act.put, List.setIfInBounds_toArray, List.set_cons_zero, List.set_cons_succ]; refine hK _ ?_; clear hK K) | (refine seq_skipc (by rfl) ?_; intro K hK; simp only [Act.put, List.setIfInBounds_toArray, List.set_cons_zero, List.set_cons_succ]; refine hK _ ?_; clear hK K) | (refine seq_read (by rfl) (by rfl) ?_; intro K hK; go_big_quiet_op; first | go_big_quiet_on | (refine ⟨_, fun _ _ => rfl, ?_⟩; go_big_quiet_on))))
              refine seq_done ?_
              go_wp2
              go_roundw
              case rel => exact ⟨true, n + 1, by omega, rfl, by go_num, h1, h2, HE.out, Lib.hid (fun _ => hb.out (by trivial))⟩
              case measure => simp [intOf]; omega
          · obtain rfl : n = 24 := by omega
            replace HE := Lib.hid HE
            cases b
            · go_wp2
              go_ret
              exact ⟨rfl, HE.out⟩
            · have hl := less8_c p q
              rw [hb.out rfl] at hl
              go_wp2_with first | (refine wpList_load_blk (by rfl) 23 _ rfl rfl (by assumption) Try.underlying23 rfl (by kernel_rfl) ?_)
              refine (hl _).mono ?_
              rintro e w9 ⟨rfl, hE⟩
              replace HE := Lib.hid (HE.out.trans hE)
              clear hE
              go_wp2
              go_ret
              exact ⟨rfl, HE.out⟩
    · rw [e2] at hqr
      refine (hqr _).mono ?_
      rintro e w9 ⟨rfl, hE⟩
      replace HE := Lib.hid (HE.out.trans hE)
      replace h1 := h1.ext hE
      replace h2 := h2.ext hE
      replace h3 := h3.ext hE
      clear hE
      go_wp2_with first | (refine wpList_load_blk (by rfl) 23 _ rfl rfl (by assumption) Try.underlying23 rfl (by kernel_rfl) ?_)
      refine (hpq _).mono ?_
      rintro e w9 ⟨rfl, hE⟩
      replace HE := Lib.hid (HE.out.trans hE)
      replace h1 := h1.ext hE
      replace h2 := h2.ext hE
      replace h3 := h3.ext hE
      clear hE
      go_wp2_with first | (refine wpList_load_blk (by rfl) 23 _ rfl rfl (by assumption) Try.underlying23 rfl (by kernel_rfl) ?_)
      rcases e3 : pmLess q p with _ | _
      · rw [e3] at hqp
        refine (hqp _).mono ?_
        have hq := hne (han e1 e3)
        clear e1 e3 hpp hqp hqr hpr htr han hne
        rintro e w9 ⟨rfl, hE⟩
        replace HE := Lib.hid (HE.out.trans hE)
        replace h1 := h1.ext hE
        replace h2 := h2.ext hE
        replace h3 := h3.ext hE
        clear hE
        go_wp2_with first | (refine wpList_load_blk (by rfl) 23 _ rfl rfl (by assumption) Try.underlying23 rfl (by kernel_rfl) ?_)
        clear hpq hq hg
        clear h3
        replace h1 := h1
        go_loopw [10, 11] (fun l c wr => ∃ (b : Bool) (n : Nat), n ≤ 24 ∧ l = .bool b ∧ c = .int .u8 n ∧ Blk wr w2.heap.size 23 (pmC p) ∧ Blk wr w3.heap.size 23 (pmC q) ∧ Ext w wr ∧ Hid (b = true → pmLess p q = true)) (fun _ c _ => 24 - (intOf c).toNat)
        case atStart => exact ⟨false, 0, by omega, rfl, rfl, h1, h2, HE.out, Lib.hid (by simp)⟩
        case round =>
          clear h1 h2 HE
          obtain ⟨b, n, hn, rfl, rfl, h1, h2, HE, hb⟩ := hrel
          by_cases hlt : n < 24
          · obtain ⟨Y, hY⟩ : ∃ Y, Y = nmW n := ⟨_, rfl⟩
            have hyis : wyIs Y = true := by rw [hY]; exact nmW_is n
            have hway := way_c n (by omega)
            rw [← hY] at hway
            clear hY
            have haq := al8_c q Y hyis
            have hap := al8_c p Y hyis
            have hla := fun h h' => less_al (p := p) (q := q) (w := Y) h h'
            generalize pmAl q Y = aq at haq hla
            generalize pmAl p Y = ap at hap hla
            clear hyis
            replace HE := Lib.hid HE.drew
            replace h1 := h1.drew
            replace h2 := h2.drew
            cases b
            · cases aq
              · skip
                go_wp2_with fail
                refine wp_region_seq [(0, false), (1, false), (2, false), (3, false), (4, true), (5, true), (6, false), (7, false), (8, false), (9, true), (10, true), (11, false), (12, false), (13, false), (14, false)] Ext (by kernel_rfl) (by kernel_rfl) Ext.refl (fun _ _ _ => Ext.trans) ?_; simp only [List.map, nth_z, nth_s]
                (repeat (first | (refine seq_skip (by rfl) ?_; intro K hK; simp only [Act.put, List.setIfInBounds_toArray, List.set_cons_zero, List.set_cons_succ]; refine hK _ ?_; clear hK K) | (refine seq_skipc (by rfl) ?_; intro K hK; simp only [Act.put, List.setIfInBounds_toArray, List.set_cons_zero, List.set_cons_succ]; refine hK _ ?_; clear hK K) | (refine seq_read (by rfl) (by rfl) ?_; intro K hK; go_big_quiet_op; first | go_big_quiet_on | (refine ⟨_, fun _ _ => rfl, ?_⟩; go_big_quiet_on))))
                refine seq_load rfl rfl (fun x hx => Blk.ext (h2) hx) rfl Try.underlying23 (by kernel_rfl) (by rfl) ?_; intro K hK; simp only [Act.put, List.setIfInBounds_toArray, List.set_cons_zero, List.set_cons_succ]; refine hK _ ?_; clear hK K
                (repeat (first | (refine seq_skip (by rfl) ?_; intro K hK; simp only [Act.put, List.setIfInBounds_toArray, List.set_cons_zero, List.set_cons_succ]; refine hK _ ?_; clear hK K) | (refine seq_skipc (by rfl) ?_; intro K hK; simp only [Act.put, List.setIfInBounds_toArray, List.set_cons_zero, List.set_cons_succ]; refine hK _ ?_; clear hK K) | (refine seq_read (by rfl) (by rfl) ?_; intro K hK; go_big_quiet_op; first | go_big_quiet_on | (refine ⟨_, fun _ _ => rfl, ?_⟩; go_big_quiet_on))))
                refine seq_call (hway _) rfl Try.func17 (by kernel_rfl) (by kernel_rfl) (by rfl) (by rfl) ?_; intro K hK; rintro e w' ⟨rfl, hE⟩; refine ⟨_, rfl, hE, ?_⟩; simp only [Act.put, List.setIfInBounds_toArray, List.set_cons_zero, List.set_cons_succ]; refine hK _ _ ?_; clear hK K; replace HE := Lib.hid (HE.out.trans hE)
                replace h1 := h1.ext hE
                replace h2 := h2.ext hE
                clear hE
                refine seq_call (haq _) rfl Try.func14 (by kernel_rfl) (by kernel_rfl) (by rfl) (by rfl) ?_; intro K hK; rintro e w' ⟨rfl, hE⟩; refine ⟨_, rfl, hE, ?_⟩; simp only [Act.put, List.setIfInBounds_toArray, List.set_cons_zero, List.set_cons_succ]; refine hK _ _ ?_; clear hK K; replace HE := Lib.hid (HE.out.trans hE)
                replace h1 := h1.ext hE
                replace h2 := h2.ext hE
                clear hE
                (repeat (first | (refine seq_skip (by rfl) ?_; intro K hK; simp only [Act.put, List.setIfInBounds_toArray, List.set_cons_zero, List.set_cons_succ]; refine hK _ ?_; clear hK K) | (refine seq_skipc (by rfl) ?_; intro K hK; simp only [Act.put, List.setIfInBounds_toArray, List.set_cons_zero, List.set_cons_succ]; refine hK _ ?_; clear hK K) | (refine seq_read (by rfl) (by rfl) ?_; intro K hK; go_big_quiet_op; first | go_big_quiet_on | (refine ⟨_, fun _ _ => rfl, ?_⟩; go_big_quiet_on))))
                refine seq_done ?_
                go_wp2
                go_roundw
                case rel => exact ⟨false, n + 1, by omega, rfl, by go_num, h1, h2, HE.out, Lib.hid (by simp)⟩
                case measure => simp [intOf]; omega
              · cases ap
                · have hl : Hid (true = true → pmLess p q = true) := Lib.hid (fun _ => by
                    rcases hh : pmLess p q with _ | _
                    · exact absurd (hla hh rfl) (by simp)
                    · rfl)
                  clear hla
                  go_wp2_with fail
                  refine wp_region_seq [(0, false), (1, false), (2, false), (3, false), (4, true), (5, true), (6, false), (7, false), (8, false), (9, true), (10, true), (11, false), (12, false), (13, false), (14, false)] Ext (by kernel_rfl) (by kernel_rfl) Ext.refl (fun _ _ _ => Ext.trans) ?_; simp only [List.map, nth_z, nth_s]
                  (repeat (first | (refine seq_skip (by rfl) ?_; intro K hK; simp only [Act.put, List.setIfInBounds_toArray, List.set_cons_zero, List.set_cons_succ]; refine hK _ ?_; clear hK K) | (refine seq_skipc (by rfl) ?_; intro K hK; simp only [Act.put, List.setIfInBounds_toArray, List.set_cons_zero, List.set_cons_succ]; refine hK _ ?_; clear hK K) | (refine seq_read (by rfl) (by rfl) ?_; intro K hK; go_big_quiet_op; first | go_big_quiet_on | (refine ⟨_, fun _ _ => rfl, ?_⟩; go_big_quiet_on))))
                  refine seq_load rfl rfl (fun x hx => Blk.ext (h2) hx) rfl Try.underlying23 (by kernel_rfl) (by rfl) ?_; intro K hK; simp only [Act.put, List.setIfInBounds_toArray, List.set_cons_zero, List.set_cons_succ]; refine hK _ ?_; clear hK K
                  (repeat (first | (refine seq_skip (by rfl) ?_; intro K hK; simp only [Act.put, List.setIfInBounds_toArray, List.set_cons_zero, List.set_cons_succ]; refine hK _ ?_; clear hK K) | (refine seq_skipc (by rfl) ?_; intro K hK; simp only [Act.put, List.setIfInBounds_toArray, List.set_cons_zero, List.set_cons_succ]; refine hK _ ?_; clear hK K) | (refine seq_read (by rfl) (by rfl) ?_; intro K hK; go_big_quiet_op; first | go_big_quiet_on | (refine ⟨_, fun _ _ => rfl, ?_⟩; go_big_quiet_on))))
                  refine seq_call (hway _) rfl Try.func17 (by kernel_rfl) (by kernel_rfl) (by rfl) (by rfl) ?_; intro K hK; rintro e w' ⟨rfl, hE⟩; refine ⟨_, rfl, hE, ?_⟩; simp only [Act.put, List.setIfInBounds_toArray, List.set_cons_zero, List.set_cons_succ]; refine hK _ _ ?_; clear hK K; replace HE := Lib.hid (HE.out.trans hE)
                  replace h1 := h1.ext hE
                  replace h2 := h2.ext hE
                  clear hE
                  refine seq_call (haq _) rfl Try.func14 (by kernel_rfl) (by kernel_rfl) (by rfl) (by rfl) ?_; intro K hK; rintro e w' ⟨rfl, hE⟩; refine ⟨_, rfl, hE, ?_⟩; simp only [Act.put, List.setIfInBounds_toArray, List.set_cons_zero, List.set_cons_succ]; refine hK _ _ ?_; clear hK K; replace HE := Lib.hid (HE.out.trans hE)
                  replace h1 := h1.ext hE
                  replace h2 := h2.ext hE
                  clear hE
                  (repeat (first | (refine seq_skip (by rfl) ?_; intro K hK; simp only [Act.put, List.setIfInBounds_toArray, List.set_cons_zero, List.set_cons_succ]; refine hK _ ?_; clear hK K) | (refine seq_skipc (by rfl) ?_; intro K hK; simp only [Act.put, List.setIfInBounds_toArray, List.set_cons_zero, List.set_cons_succ]; refine hK _ ?_; clear hK K) | (refine seq_read (by rfl) (by rfl) ?_; intro K hK; go_big_quiet_op; first | go_big_quiet_on | (refine ⟨_, fun _ _ => rfl, ?_⟩; go_big_quiet_on))))
                  refine seq_load rfl rfl (fun x hx => Blk.ext (h1) hx) rfl Try.underlying23 (by kernel_rfl) (by rfl) ?_; intro K hK; simp only [Act.put, List.setIfInBounds_toArray, List.set_cons_zero, List.set_cons_succ]; refine hK _ ?_; clear hK K
                  (repeat (first | (refine seq_skip (by rfl) ?_; intro K hK; simp only [Act.put, List.setIfInBounds_toArray, List.set_cons_zero, List.set_cons_succ]; refine hK _ ?_; clear hK K) | (refine seq_skipc (by rfl) ?_; intro K hK; simp only [Act.put, List.setIfInBounds_toArray, List.set_cons_zero, List.set_cons_succ]; refine hK _ ?_; clear hK K) | (refine seq_read (by rfl) (by rfl) ?_; intro K hK; go_big_quiet_op; first | go_big_quiet_on | (refine ⟨_, fun _ _ => rfl, ?_⟩; go_big_quiet_on))))
                  refine seq_call (hway _) rfl Try.func17 (by kernel_rfl) (by kernel_rfl) (by rfl) (by rfl) ?_; intro K hK; rintro e w' ⟨rfl, hE⟩; refine ⟨_, rfl, hE, ?_⟩; simp only [Act.put, List.setIfInBounds_toArray, List.set_cons_zero, List.set_cons_succ]; refine hK _ _ ?_; clear hK K; replace HE := Lib.hid (HE.out.trans hE)
                  replace h1 := h1.ext hE
                  replace h2 := h2.ext hE
                  clear hE
                  refine seq_call (hap _) rfl Try.func14 (by kernel_rfl) (by kernel_rfl) (by rfl) (by rfl) ?_; intro K hK; rintro e w' ⟨rfl, hE⟩; refine ⟨_, rfl, hE, ?_⟩; simp only [Act.put, List.setIfInBounds_toArray, List.set_cons_zero, List.set_cons_succ]; refine hK _ _ ?_; clear hK K; replace HE := Lib.hid (HE.out.trans hE)
                  replace h1 := h1.ext hE
                  replace h2 := h2.ext hE
                  clear hE
                  (repeat (first | (refine seq_skip (by rfl) ?_; intro K hK; simp only [Act.put, List.setIfInBounds_toArray, List.set_cons_zero, List.set_cons_succ]; refine hK _ ?_; clear hK K) | (refine seq_skipc (by rfl) ?_; intro K hK; simp only [Act.put, List.setIfInBounds_toArray, List.set_cons_zero, List.set_cons_succ]; refine hK _ ?_; clear hK K) | (refine seq_read (by rfl) (by rfl) ?_; intro K hK; go_big_quiet_op; first | go_big_quiet_on | (refine ⟨_, fun _ _ => rfl, ?_⟩; go_big_quiet_on))))
                  refine seq_done ?_
                  go_wp2
                  go_roundw
                  case rel => exact ⟨true, n + 1, by omega, rfl, by go_num, h1, h2, HE.out, Lib.hid (fun _ => hl.out (by trivial))⟩
                  case measure => simp [intOf]; omega
                · clear hla
                  go_wp2_with fail
                  refine wp_region_seq [(0, false), (1, false), (2, false), (3, false), (4, true), (5, true), (6, false), (7, false), (8, false), (9, true), (10, true), (11, false), (12, false), (13, false), (14, false)] Ext (by kernel_rfl) (by kernel_rfl) Ext.refl (fun _ _ _ => Ext.trans) ?_; simp only [List.map, nth_z, nth_s]
                  (repeat (first | (refine seq_skip (by rfl) ?_; intro K hK; simp only [Act.put, List.setIfInBounds_toArray, List.set_cons_zero, List.set_cons_succ]; refine hK _ ?_; clear hK K) | (refine seq_skipc (by rfl) ?_; intro K hK; simp only [Act.put, List.setIfInBounds_toArray, List.set_cons_zero, List.set_cons_succ]; refine hK _ ?_; clear hK K) | (refine seq_read (by rfl) (by rfl) ?_; intro K hK; go_big_quiet_op; first | go_big_quiet_on | (refine ⟨_, fun _ _ => rfl, ?_⟩; go_big_quiet_on))))
                  refine seq_load rfl rfl (fun x hx => Blk.ext (h2) hx) rfl Try.underlying23 (by kernel_rfl) (by rfl) ?_; intro K hK; simp only [Act.put, List.setIfInBounds_toArray, List.set_cons_zero, List.set_cons_succ]; refine hK _ ?_; clear hK K
                  (repeat (first | (refine seq_skip (by rfl) ?_; intro K hK; simp only [Act.put, List.setIfInBounds_toArray, List.set_cons_zero, List.set_cons_succ]; refine hK _ ?_; clear hK K) | (refine seq_skipc (by rfl) ?_; intro K hK; simp only [Act.put, List.setIfInBounds_toArray, List.set_cons_zero, List.set_cons_succ]; refine hK _ ?_; clear hK K) | (refine seq_read (by rfl) (by rfl) ?_; intro K hK; go_big_quiet_op; first | go_big_quiet_on | (refine ⟨_, fun _ _ => rfl, ?_⟩; go_big_quiet_on))))
                  refine seq_call (hway _) rfl Try.func17 (by kernel_rfl) (by kernel_rfl) (by rfl) (by rfl) ?_; intro K hK; rintro e w' ⟨rfl, hE⟩; refine ⟨_, rfl, hE, ?_⟩; simp only [Act.put, List.setIfInBounds_toArray, List.set_cons_zero, List.set_cons_succ]; refine hK _ _ ?_; clear hK K; replace HE := Lib.hid (HE.out.trans hE)
                  replace h1 := h1.ext hE
                  replace h2 := h2.ext hE
                  clear hE
                  refine seq_call (haq _) rfl Try.func14 (by kernel_rfl) (by kernel_rfl) (by rfl) (by rfl) ?_; intro K hK; rintro e w' ⟨rfl, hE⟩; refine ⟨_, rfl, hE, ?_⟩; simp only [Act.put, List.setIfInBounds_toArray, List.set_cons_zero, List.set_cons_succ]; refine hK _ _ ?_; clear hK K; replace HE := Lib.hid (HE.out.trans hE)
                  replace h1 := h1.ext hE
                  replace h2 := h2.ext hE
                  clear hE
                  (repeat (first | (refine seq_skip (by rfl) ?_; intro K hK; simp only [Act.put, List.setIfInBounds_toArray, List.set_cons_zero, List.set_cons_succ]; refine hK _ ?_; clear hK K) | (refine seq_skipc (by rfl) ?_; intro K hK; simp only [Act.put, List.setIfInBounds_toArray, List.set_cons_zero, List.set_cons_succ]; refine hK _ ?_; clear hK K) | (refine seq_read (by rfl) (by rfl) ?_; intro K hK; go_big_quiet_op; first | go_big_quiet_on | (refine ⟨_, fun _ _ => rfl, ?_⟩; go_big_quiet_on))))
                  refine seq_load rfl rfl (fun x hx => Blk.ext (h1) hx) rfl Try.underlying23 (by kernel_rfl) (by rfl) ?_; intro K hK; simp only [Act.put, List.setIfInBounds_toArray, List.set_cons_zero, List.set_cons_succ]; refine hK _ ?_; clear hK K
                  (repeat (first | (refine seq_skip (by rfl) ?_; intro K hK; simp only [Act.put, List.setIfInBounds_toArray, List.set_cons_zero, List.set_cons_succ]; refine hK _ ?_; clear hK K) | (refine seq_skipc (by rfl) ?_; intro K hK; simp only [Act.put, List.setIfInBounds_toArray, List.set_cons_zero, List.set_cons_succ]; refine hK _ ?_; clear hK K) | (refine seq_read (by rfl) (by rfl) ?_; intro K hK; go_big_quiet_op; first | go_big_quiet_on | (refine ⟨_, fun _ _ => rfl, ?_⟩; go_big_quiet_on))))
                  refine seq_call (hway _) rfl Try.func17 (by kernel_rfl) (by kernel_rfl) (by rfl) (by rfl) ?_; intro K hK; rintro e w' ⟨rfl, hE⟩; refine ⟨_, rfl, hE, ?_⟩; simp only [Act.put, List.setIfInBounds_toArray, List.set_cons_zero, List.set_cons_succ]; refine hK _ _ ?_; clear hK K; replace HE := Lib.hid (HE.out.trans hE)
                  replace h1 := h1.ext hE
                  replace h2 := h2.ext hE
                  clear hE
                  refine seq_call (hap _) rfl Try.func14 (by kernel_rfl) (by kernel_rfl) (by rfl) (by rfl) ?_; intro K hK; rintro e w' ⟨rfl, hE⟩; refine ⟨_, rfl, hE, ?_⟩; simp only [Act.put, List.setIfInBounds_toArray, List.set_cons_zero, List.set_cons_succ]; refine hK _ _ ?_; clear hK K; replace HE := Lib.hid (HE.out.trans hE)
                  replace h1 := h1.ext hE
                  replace h2 := h2.ext hE
                  clear hE
                  (repeat (first | (refine seq_skip (by rfl) ?_; intro K hK; simp only [Act.put, List.setIfInBounds_toArray, List.set_cons_zero, List.set_cons_succ]; refine hK _ ?_; clear hK K) | (refine seq_skipc (by rfl) ?_; intro K hK; simp only [Act.put, List.setIfInBounds_toArray, List.set_cons_zero, List.set_cons_succ]; refine hK _ ?_; clear hK K) | (refine seq_read (by rfl) (by rfl) ?_; intro K hK; go_big_quiet_op; first | go_big_quiet_on | (refine ⟨_, fun _ _ => rfl, ?_⟩; go_big_quiet_on))))
                  refine seq_done ?_
                  go_wp2
                  go_roundw
                  case rel => exact ⟨false, n + 1, by omega, rfl, by go_num, h1, h2, HE.out, Lib.hid (by simp)⟩
                  case measure => simp [intOf]; omega
            · clear hla
              go_wp2_with fail
              refine wp_region_seq [(0, false), (1, false), (2, false), (3, false), (4, true), (5, true), (6, false), (7, false), (8, false), (9, true), (10, true), (11, false), (12, false), (13, false), (14, false)] Ext (by kernel_rfl) (by kernel_rfl) Ext.refl (fun _ _ _ => Ext.trans) ?_; simp only [List.map, nth_z, nth_s]
              (repeat (first | (refine seq_skip (by rfl) ?_; intro K hK; simp only [Act.put, List.setIfInBounds_toArray, List.set_cons_zero, List.set_cons_succ]; refine hK _ ?_; clear hK K) | (refine seq_skipc (by rfl) ?_; intro K hK; simp only [Act.put, List.setIfInBounds_toArray, List.set_cons_zero, List.set_cons_succ]; refine hK _ ?_; clear hK K) | (refine seq_read (by rfl) (by rfl) ?_; intro K hK; go_big_quiet_op; first | go_big_quiet_on | (refine ⟨_, fun _ _ => rfl, ?_⟩; go_big_quiet_on))))
              refine seq_done ?_
              go_wp2
              go_roundw
              case rel => exact ⟨true, n + 1, by omega, rfl, by go_num, h1, h2, HE.out, Lib.hid (fun _ => hb.out (by trivial))⟩
              case measure => simp [intOf]; omega
          · obtain rfl : n = 24 := by omega
            replace HE := Lib.hid HE
            cases b
            · go_wp2
              go_ret
              exact ⟨rfl, HE.out⟩
            · have hl := less8_c p q
              rw [hb.out rfl] at hl
              go_wp2_with first | (refine wpList_load_blk (by rfl) 23 _ rfl rfl (by assumption) Try.underlying23 rfl (by kernel_rfl) ?_)
              refine (hl _).mono ?_
              rintro e w9 ⟨rfl, hE⟩
              replace HE := Lib.hid (HE.out.trans hE)
              clear hE
              go_wp2
              go_ret
              exact ⟨rfl, HE.out⟩
      · rw [e3] at hqp
        refine (hqp _).mono ?_
        clear e1 e3 hpp hqr hpr htr han hne
        rintro e w9 ⟨rfl, hE⟩
        replace HE := Lib.hid (HE.out.trans hE)
        replace h1 := h1.ext hE
        replace h2 := h2.ext hE
        replace h3 := h3.ext hE
        clear hE
        go_wp2_with first | (refine wpList_load_blk (by rfl) 23 _ rfl rfl (by assumption) Try.underlying23 rfl (by kernel_rfl) ?_)
        clear hpq hqp
        clear h3
        replace h1 := h1
        go_loopw [10, 11] (fun l c wr => ∃ (b : Bool) (n : Nat), n ≤ 24 ∧ l = .bool b ∧ c = .int .u8 n ∧ Blk wr w2.heap.size 23 (pmC p) ∧ Blk wr w3.heap.size 23 (pmC q) ∧ Ext w wr ∧ Hid (b = true → pmLess p q = true)) (fun _ c _ => 24 - (intOf c).toNat)
        case atStart => exact ⟨false, 0, by omega, rfl, rfl, h1, h2, HE.out, Lib.hid (by simp)⟩
        case round =>
          clear h1 h2 HE
          obtain ⟨b, n, hn, rfl, rfl, h1, h2, HE, hb⟩ := hrel
          by_cases hlt : n < 24
          · obtain ⟨Y, hY⟩ : ∃ Y, Y = nmW n := ⟨_, rfl⟩
            have hyis : wyIs Y = true := by rw [hY]; exact nmW_is n
            have hway := way_c n (by omega)
            rw [← hY] at hway
            clear hY
            have haq := al8_c q Y hyis
            have hap := al8_c p Y hyis
            have hla := fun h h' => less_al (p := p) (q := q) (w := Y) h h'
            generalize pmAl q Y = aq at haq hla
            generalize pmAl p Y = ap at hap hla
            clear hyis
            replace HE := Lib.hid HE.drew
            replace h1 := h1.drew
            replace h2 := h2.drew
            cases b
            · cases aq
              · skip
                go_wp2_with fail
                refine wp_region_seq [(0, false), (1, false), (2, false), (3, false), (4, true), (5, true), (6, false), (7, false), (8, false), (9, true), (10, true), (11, false), (12, false), (13, false), (14, false)] Ext (by kernel_rfl) (by kernel_rfl) Ext.refl (fun _ _ _ => Ext.trans) ?_; simp only [List.map, nth_z, nth_s]
                (repeat (first | (refine seq_skip (by rfl) ?_; intro K hK; simp only [Act.put, List.setIfInBounds_toArray, List.set_cons_zero, List.set_cons_succ]; refine hK _ ?_; clear hK K) | (refine seq_skipc (by rfl) ?_; intro K hK; simp only [Act.put, List.setIfInBounds_toArray, List.set_cons_zero, List.set_cons_succ]; refine hK _ ?_; clear hK K) | (refine seq_read (by rfl) (by rfl) ?_; intro K hK; go_big_quiet_op; first | go_big_quiet_on | (refine ⟨_, fun _ _ => rfl, ?_⟩; go_big_quiet_on))))
                refine seq_load rfl rfl (fun x hx => Blk.ext (h2) hx) rfl Try.underlying23 (by kernel_rfl) (by rfl) ?_; intro K hK; simp only [Act.put, List.setIfInBounds_toArray, List.set_cons_zero, List.set_cons_succ]; refine hK _ ?_; clear hK K
                (repeat (first | (refine seq_skip (by rfl) ?_; intro K hK; simp only [Act.put, List.setIfInBounds_toArray, List.set_cons_zero, List.set_cons_succ]; refine hK _ ?_; clear hK K) | (refine seq_skipc (by rfl) ?_; intro K hK; simp only [Act.put, List.setIfInBounds_toArray, List.set_cons_zero, List.set_cons_succ]; refine hK _ ?_; clear hK K) | (refine seq_read (by rfl) (by rfl) ?_; intro K hK; go_big_quiet_op; first | go_big_quiet_on | (refine ⟨_, fun _ _ => rfl, ?_⟩; go_big_quiet_on))))
                refine seq_call (hway _) rfl Try.func17 (by kernel_rfl) (by kernel_rfl) (by rfl) (by rfl) ?_; intro K hK; rintro e w' ⟨rfl, hE⟩; refine ⟨_, rfl, hE, ?_⟩; simp only [Act.put, List.setIfInBounds_toArray, List.set_cons_zero, List.set_cons_succ]; refine hK _ _ ?_; clear hK K; replace HE := Lib.hid (HE.out.trans hE)
                replace h1 := h1.ext hE
                replace h2 := h2.ext hE
                clear hE
                refine seq_call (haq _) rfl Try.func14 (by kernel_rfl) (by kernel_rfl) (by rfl) (by rfl) ?_; intro K hK; rintro e w' ⟨rfl, hE⟩; refine ⟨_, rfl, hE, ?_⟩; simp only [Act.put, List.setIfInBounds_toArray, List.set_cons_zero, List.set_cons_succ]; refine hK _ _ ?_; clear hK K; replace HE := Lib.hid (HE.out.trans hE)
                replace h1 := h1.ext hE
                replace h2 := h2.ext hE
                clear hE
                (repeat (first | (refine seq_skip (by rfl) ?_; intro K hK; simp only [Act.put, List.setIfInBounds_toArray, List.set_cons_zero, List.set_cons_succ]; refine hK _ ?_; clear hK K) | (refine seq_skipc (by rfl) ?_; intro K hK; simp only [Act.put, List.setIfInBounds_toArray, List.set_cons_zero, List.set_cons_succ]; refine hK _ ?_; clear hK K) | (refine seq_read (by rfl) (by rfl) ?_; intro K hK; go_big_quiet_op; first | go_big_quiet_on | (refine ⟨_, fun _ _ => rfl, ?_⟩; go_big_quiet_on))))
                refine seq_done ?_
                go_wp2
                go_roundw
                case rel => exact ⟨false, n + 1, by omega, rfl, by go_num, h1, h2, HE.out, Lib.hid (by simp)⟩
                case measure => simp [intOf]; omega
              · cases ap
                · have hl : Hid (true = true → pmLess p q = true) := Lib.hid (fun _ => by
                    rcases hh : pmLess p q with _ | _
                    · exact absurd (hla hh rfl) (by simp)
                    · rfl)
                  clear hla
                  go_wp2_with fail
                  refine wp_region_seq [(0, false), (1, false), (2, false), (3, false), (4, true), (5, true), (6, false), (7, false), (8, false), (9, true), (10, true), (11, false), (12, false), (13, false), (14, false)] Ext (by kernel_rfl) (by kernel_rfl) Ext.refl (fun _ _ _ => Ext.trans) ?_; simp only [List.map, nth_z, nth_s]
                  (repeat (first | (refine seq_skip (by rfl) ?_; intro K hK; simp only [Act.put, List.setIfInBounds_toArray, List.set_cons_zero, List.set_cons_succ]; refine hK _ ?_; clear hK K) | (refine seq_skipc (by rfl) ?_; intro K hK; simp only [Act.put, List.setIfInBounds_toArray, List.set_cons_zero, List.set_cons_succ]; refine hK _ ?_; clear hK K) | (refine seq_read (by rfl) (by rfl) ?_; intro K hK; go_big_quiet_op; first | go_big_quiet_on | (refine ⟨_, fun _ _ => rfl, ?_⟩; go_big_quiet_on))))
                  refine seq_load rfl rfl (fun x hx => Blk.ext (h2) hx) rfl Try.underlying23 (by kernel_rfl) (by rfl) ?_; intro K hK; simp only [Act.put, List.setIfInBounds_toArray, List.set_cons_zero, List.set_cons_succ]; refine hK _ ?_; clear hK K
                  (repeat (first | (refine seq_skip (by rfl) ?_; intro K hK; simp only [Act.put, List.setIfInBounds_toArray, List.set_cons_zero, List.set_cons_succ]; refine hK _ ?_; clear hK K) | (refine seq_skipc (by rfl) ?_; intro K hK; simp only [Act.put, List.setIfInBounds_toArray, List.set_cons_zero, List.set_cons_succ]; refine hK _ ?_; clear hK K) | (refine seq_read (by rfl) (by rfl) ?_; intro K hK; go_big_quiet_op; first | go_big_quiet_on | (refine ⟨_, fun _ _ => rfl, ?_⟩; go_big_quiet_on))))
                  refine seq_call (hway _) rfl Try.func17 (by kernel_rfl) (by kernel_rfl) (by rfl) (by rfl) ?_; intro K hK; rintro e w' ⟨rfl, hE⟩; refine ⟨_, rfl, hE, ?_⟩; simp only [Act.put, List.setIfInBounds_toArray, List.set_cons_zero, List.set_cons_succ]; refine hK _ _ ?_; clear hK K; replace HE := Lib.hid (HE.out.trans hE)
                  replace h1 := h1.ext hE
                  replace h2 := h2.ext hE
                  clear hE
                  refine seq_call (haq _) rfl Try.func14 (by kernel_rfl) (by kernel_rfl) (by rfl) (by rfl) ?_; intro K hK; rintro e w' ⟨rfl, hE⟩; refine ⟨_, rfl, hE, ?_⟩; simp only [Act.put, List.setIfInBounds_toArray, List.set_cons_zero, List.set_cons_succ]; refine hK _ _ ?_; clear hK K; replace HE := Lib.hid (HE.out.trans hE)
                  replace h1 := h1.ext hE
                  replace h2 := h2.ext hE
                  clear hE
                  (repeat (first | (refine seq_skip (by rfl) ?_; intro K hK; simp only [Act.put, List.setIfInBounds_toArray, List.set_cons_zero, List.set_cons_succ]; refine hK _ ?_; clear hK K) | (refine seq_skipc (by rfl) ?_; intro K hK; simp only [Act.put, List.setIfInBounds_toArray, List.set_cons_zero, List.set_cons_succ]; refine hK _ ?_; clear hK K) | (refine seq_read (by rfl) (by rfl) ?_; intro K hK; go_big_quiet_op; first | go_big_quiet_on | (refine ⟨_, fun _ _ => rfl, ?_⟩; go_big_quiet_on))))
                  refine seq_load rfl rfl (fun x hx => Blk.ext (h1) hx) rfl Try.underlying23 (by kernel_rfl) (by rfl) ?_; intro K hK; simp only [Act.put, List.setIfInBounds_toArray, List.set_cons_zero, List.set_cons_succ]; refine hK _ ?_; clear hK K
                  (repeat (first | (refine seq_skip (by rfl) ?_; intro K hK; simp only [Act.put, List.setIfInBounds_toArray, List.set_cons_zero, List.set_cons_succ]; refine hK _ ?_; clear hK K) | (refine seq_skipc (by rfl) ?_; intro K hK; simp only [Act.put, List.setIfInBounds_toArray, List.set_cons_zero, List.set_cons_succ]; refine hK _ ?_; clear hK K) | (refine seq_read (by rfl) (by rfl) ?_; intro K hK; go_big_quiet_op; first | go_big_quiet_on | (refine ⟨_, fun _ _ => rfl, ?_⟩; go_big_quiet_on))))
                  refine seq_call (hway _) rfl Try.func17 (by kernel_rfl) (by kernel_rfl) (by rfl) (by rfl) ?_; intro K hK; rintro e w' ⟨rfl, hE⟩; refine ⟨_, rfl, hE, ?_⟩; simp only [Act.put, List.setIfInBounds_toArray, List.set_cons_zero, List.set_cons_succ]; refine hK _ _ ?_; clear hK K; replace HE := Lib.hid (HE.out.trans hE)
                  replace h1 := h1.ext hE
                  replace h2 := h2.ext hE
                  clear hE
                  refine seq_call (hap _) rfl Try.func14 (by kernel_rfl) (by kernel_rfl) (by rfl) (by rfl) ?_; intro K hK; rintro e w' ⟨rfl, hE⟩; refine ⟨_, rfl, hE, ?_⟩; simp only [Act.put, List.setIfInBounds_toArray, List.set_cons_zero, List.set_cons_succ]; refine hK _ _ ?_; clear hK K; replace HE := Lib.hid (HE.out.trans hE)
                  replace h1 := h1.ext hE
                  replace h2 := h2.ext hE
                  clear hE
                  (repeat (first | (refine seq_skip (by rfl) ?_; intro K hK; simp only [Act.put, List.setIfInBounds_toArray, List.set_cons_zero, List.set_cons_succ]; refine hK _ ?_; clear hK K) | (refine seq_skipc (by rfl) ?_; intro K hK; simp only [Act.put, List.setIfInBounds_toArray, List.set_cons_zero, List.set_cons_succ]; refine hK _ ?_; clear hK K) | (refine seq_read (by rfl) (by rfl) ?_; intro K hK; go_big_quiet_op; first | go_big_quiet_on | (refine ⟨_, fun _ _ => rfl, ?_⟩; go_big_quiet_on))))
                  refine seq_done ?_
                  go_wp2
                  go_roundw
                  case rel => exact ⟨true, n + 1, by omega, rfl, by go_num, h1, h2, HE.out, Lib.hid (fun _ => hl.out (by trivial))⟩
                  case measure => simp [intOf]; omega
                · clear hla
                  go_wp2_with fail
                  refine wp_region_seq [(0, false), (1, false), (2, false), (3, false), (4, true), (5, true), (6, false), (7, false), (8, false), (9, true), (10, true), (11, false), (12, false), (13, false), (14, false)] Ext (by kernel_rfl) (by kernel_rfl) Ext.refl (fun _ _ _ => Ext.trans) ?_; simp only [List.map, nth_z, nth_s]
                  (repeat (first | (refine seq_skip (by rfl) ?_; intro K hK; simp only [Act.put, List.setIfInBounds_toArray, List.set_cons_zero, List.set_cons_succ]; refine hK _ ?_; clear hK K) | (refine seq_skipc (by rfl) ?_; intro K hK; simp only [Act.put, List.setIfInBounds_toArray, List.set_cons_zero, List.set_cons_succ]; refine hK _ ?_; clear hK K) | (refine seq_read (by rfl) (by rfl) ?_; intro K hK; go_big_quiet_op; first | go_big_quiet_on | (refine ⟨_, fun _ _ => rfl, ?_⟩; go_big_quiet_on))))
                  refine seq_load rfl rfl (fun x hx => Blk.ext (h2) hx) rfl Try.underlying23 (by kernel_rfl) (by rfl) ?_; intro K hK; simp only [Act.put, List.setIfInBounds_toArray, List.set_cons_zero, List.set_cons_succ]; refine hK _ ?_; clear hK K
                  (repeat (first | (refine seq_skip (by rfl) ?_; intro K hK; simp only [Act.put, List.setIfInBounds_toArray, List.set_cons_zero, List.set_cons_succ]; refine hK _ ?_; clear hK K) | (refine seq_skipc (by rfl) ?_; intro K hK; simp only [Act.put, List.setIfInBounds_toArray, List.set_cons_zero, List.set_cons_succ]; refine hK _ ?_; clear hK K) | (refine seq_read (by rfl) (by rfl) ?_; intro K hK; go_big_quiet_op; first | go_big_quiet_on | (refine ⟨_, fun _ _ => rfl, ?_⟩; go_big_quiet_on))))
                  refine seq_call (hway _) rfl Try.func17 (by kernel_rfl) (by kernel_rfl) (by rfl) (by rfl) ?_; intro K hK; rintro e w' ⟨rfl, hE⟩; refine ⟨_, rfl, hE, ?_⟩; simp only [Act.put, List.setIfInBounds_toArray, List.set_cons_zero, List.set_cons_succ]; refine hK _ _ ?_; clear hK K; replace HE := Lib.hid (HE.out.trans hE)
                  replace h1 := h1.ext hE
                  replace h2 := h2.ext hE
                  clear hE
                  refine seq_call (haq _) rfl Try.func14 (by kernel_rfl) (by kernel_rfl) (by rfl) (by rfl) ?_; intro K hK; rintro e w' ⟨rfl, hE⟩; refine ⟨_, rfl, hE, ?_⟩; simp only [Act.put, List.setIfInBounds_toArray, List.set_cons_zero, List.set_cons_succ]; refine hK _ _ ?_; clear hK K; replace HE := Lib.hid (HE.out.trans hE)
                  replace h1 := h1.ext hE
                  replace h2 := h2.ext hE
                  clear hE
                  (repeat (first | (refine seq_skip (by rfl) ?_; intro K hK; simp only [Act.put, List.setIfInBounds_toArray, List.set_cons_zero, List.set_cons_succ]; refine hK _ ?_; clear hK K) | (refine seq_skipc (by rfl) ?_; intro K hK; simp only [Act.put, List.setIfInBounds_toArray, List.set_cons_zero, List.set_cons_succ]; refine hK _ ?_; clear hK K) | (refine seq_read (by rfl) (by rfl) ?_; intro K hK; go_big_quiet_op; first | go_big_quiet_on | (refine ⟨_, fun _ _ => rfl, ?_⟩; go_big_quiet_on))))
                  refine seq_load rfl rfl (fun x hx => Blk.ext (h1) hx) rfl Try.underlying23 (by kernel_rfl) (by rfl) ?_; intro K hK; simp only [Act.put, List.setIfInBounds_toArray, List.set_cons_zero, List.set_cons_succ]; refine hK _ ?_; clear hK K
                  (repeat (first | (refine seq_skip (by rfl) ?_; intro K hK; simp only [Act.put, List.setIfInBounds_toArray, List.set_cons_zero, List.set_cons_succ]; refine hK _ ?_; clear hK K) | (refine seq_skipc (by rfl) ?_; intro K hK; simp only [Act.put, List.setIfInBounds_toArray, List.set_cons_zero, List.set_cons_succ]; refine hK _ ?_; clear hK K) | (refine seq_read (by rfl) (by rfl) ?_; intro K hK; go_big_quiet_op; first | go_big_quiet_on | (refine ⟨_, fun _ _ => rfl, ?_⟩; go_big_quiet_on))))
                  refine seq_call (hway _) rfl Try.func17 (by kernel_rfl) (by kernel_rfl) (by rfl) (by rfl) ?_; intro K hK; rintro e w' ⟨rfl, hE⟩; refine ⟨_, rfl, hE, ?_⟩; simp only [Act.put, List.setIfInBounds_toArray, List.set_cons_zero, List.set_cons_succ]; refine hK _ _ ?_; clear hK K; replace HE := Lib.hid (HE.out.trans hE)
                  replace h1 := h1.ext hE
                  replace h2 := h2.ext hE
                  clear hE
                  refine seq_call (hap _) rfl Try.func14 (by kernel_rfl) (by kernel_rfl) (by rfl) (by rfl) ?_; intro K hK; rintro e w' ⟨rfl, hE⟩; refine ⟨_, rfl, hE, ?_⟩; simp only [Act.put, List.setIfInBounds_toArray, List.set_cons_zero, List.set_cons_succ]; refine hK _ _ ?_; clear hK K; replace HE := Lib.hid (HE.out.trans hE)
                  replace h1 := h1.ext hE
                  replace h2 := h2.ext hE
                  clear hE
                  (repeat (first | (refine seq_skip (by rfl) ?_; intro K hK; simp only [Act.put, List.setIfInBounds_toArray, List.set_cons_zero, List.set_cons_succ]; refine hK _ ?_; clear hK K) | (refine seq_skipc (by rfl) ?_; intro K hK; simp only [Act.put, List.setIfInBounds_toArray, List.set_cons_zero, List.set_cons_succ]; refine hK _ ?_; clear hK K) | (refine seq_read (by rfl) (by rfl) ?_; intro K hK; go_big_quiet_op; first | go_big_quiet_on | (refine ⟨_, fun _ _ => rfl, ?_⟩; go_big_quiet_on))))
                  refine seq_done ?_
                  go_wp2
                  go_roundw
                  case rel => exact ⟨false, n + 1, by omega, rfl, by go_num, h1, h2, HE.out, Lib.hid (by simp)⟩
                  case measure => simp [intOf]; omega
            · clear hla
              go_wp2_with fail
              refine wp_region_seq [(0, false), (1, false), (2, false), (3, false), (4, true), (5, true), (6, false), (7, false), (8, false), (9, true), (10, true), (11, false), (12, false), (13, false), (14, false)] Ext (by kernel_rfl) (by kernel_rfl) Ext.refl (fun _ _ _ => Ext.trans) ?_; simp only [List.map, nth_z, nth_s]
              (repeat (first | (refine seq_skip (by rfl) ?_; intro K hK; simp only [Act.put, List.setIfInBounds_toArray, List.set_cons_zero, List.set_cons_succ]; refine hK _ ?_; clear hK K) | (refine seq_skipc (by rfl) ?_; intro K hK; simp only [Act.put, List.setIfInBounds_toArray, List.set_cons_zero, List.set_cons_succ]; refine hK _ ?_; clear hK K) | (refine seq_read (by rfl) (by rfl) ?_; intro K hK; go_big_quiet_op; first | go_big_quiet_on | (refine ⟨_, fun _ _ => rfl, ?_⟩; go_big_quiet_on))))
              refine seq_done ?_
              go_wp2
              go_roundw
              case rel => exact ⟨true, n + 1, by omega, rfl, by go_num, h1, h2, HE.out, Lib.hid (fun _ => hb.out (by trivial))⟩
              case measure => simp [intOf]; omega
          · obtain rfl : n = 24 := by omega
            replace HE := Lib.hid HE
            cases b
            · go_wp2
              go_ret
              exact ⟨rfl, HE.out⟩
            · have hl := less8_c p q
              rw [hb.out rfl] at hl
              go_wp2_with first | (refine wpList_load_blk (by rfl) 23 _ rfl rfl (by assumption) Try.underlying23 rfl (by kernel_rfl) ?_)
              refine (hl _).mono ?_
              rintro e w9 ⟨rfl, hE⟩
              replace HE := Lib.hid (HE.out.trans hE)
              clear hE
              go_wp2
              go_ret
              exact ⟨rfl, HE.out⟩
  · rw [e1] at hpq
    refine (hpq _).mono ?_
    rintro e w9 ⟨rfl, hE⟩
    replace HE := Lib.hid (HE.out.trans hE)
    replace h1 := h1.ext hE
    replace h2 := h2.ext hE
    replace h3 := h3.ext hE
    clear hE
    go_wp2_with first | (refine wpList_load_blk (by rfl) 23 _ rfl rfl (by assumption) Try.underlying23 rfl (by kernel_rfl) ?_)
    refine (hpq _).mono ?_
    rintro e w9 ⟨rfl, hE⟩
    replace HE := Lib.hid (HE.out.trans hE)
    replace h1 := h1.ext hE
    replace h2 := h2.ext hE
    replace h3 := h3.ext hE
    clear hE
    go_wp2_with first | (refine wpList_load_blk (by rfl) 23 _ rfl rfl (by assumption) Try.underlying23 rfl (by kernel_rfl) ?_)
    clear h3
    replace h1 := h1
    go_loopw [10, 11] (fun l c wr => ∃ (b : Bool) (n : Nat), n ≤ 24 ∧ l = .bool b ∧ c = .int .u8 n ∧ Blk wr w2.heap.size 23 (pmC p) ∧ Blk wr w3.heap.size 23 (pmC q) ∧ Ext w wr ∧ Hid (b = true → pmLess p q = true)) (fun _ c _ => 24 - (intOf c).toNat)
    case atStart => exact ⟨false, 0, by omega, rfl, rfl, h1, h2, HE.out, Lib.hid (by simp)⟩
    case round =>
      clear h1 h2 HE
      obtain ⟨b, n, hn, rfl, rfl, h1, h2, HE, hb⟩ := hrel
      by_cases hlt : n < 24
      · obtain ⟨Y, hY⟩ : ∃ Y, Y = nmW n := ⟨_, rfl⟩
        have hyis : wyIs Y = true := by rw [hY]; exact nmW_is n
        have hway := way_c n (by omega)
        rw [← hY] at hway
        clear hY
        have haq := al8_c q Y hyis
        have hap := al8_c p Y hyis
        have hla := fun h h' => less_al (p := p) (q := q) (w := Y) h h'
        generalize pmAl q Y = aq at haq hla
        generalize pmAl p Y = ap at hap hla
        clear hyis
        replace HE := Lib.hid HE.drew
        replace h1 := h1.drew
        replace h2 := h2.drew
        cases b
        · cases aq
          · skip
            go_wp2_with fail
            refine wp_region_seq [(0, false), (1, false), (2, false), (3, false), (4, true), (5, true), (6, false), (7, false), (8, false), (9, true), (10, true), (11, false), (12, false), (13, false), (14, false)] Ext (by kernel_rfl) (by kernel_rfl) Ext.refl (fun _ _ _ => Ext.trans) ?_; simp only [List.map, nth_z, nth_s]
            (repeat (first | (refine seq_skip (by rfl) ?_; intro K hK; simp only [Act.put, List.setIfInBounds_toArray, List.set_cons_zero, List.set_cons_succ]; refine hK _ ?_; clear hK K) | (refine seq_skipc (by rfl) ?_; intro K hK; simp only [Act.put, List.setIfInBounds_toArray, List.set_cons_zero, List.set_cons_succ]; refine hK _ ?_; clear hK K) | (refine seq_read (by rfl) (by rfl) ?_; intro K hK; go_big_quiet_op; first | go_big_quiet_on | (refine ⟨_, fun _ _ => rfl, ?_⟩; go_big_quiet_on))))
            refine seq_load rfl rfl (fun x hx => Blk.ext (h2) hx) rfl Try.underlying23 (by kernel_rfl) (by rfl) ?_; intro K hK; simp only [Act.put, List.setIfInBounds_toArray, List.set_cons_zero, List.set_cons_succ]; refine hK _ ?_; clear hK K
            (repeat (first | (refine seq_skip (by rfl) ?_; intro K hK; simp only [Act.put, List.setIfInBounds_toArray, List.set_cons_zero, List.set_cons_succ]; refine hK _ ?_; clear hK K) | (refine seq_skipc (by rfl) ?_; intro K hK; simp only [Act.put, List.setIfInBounds_toArray, List.set_cons_zero, List.set_cons_succ]; refine hK _ ?_; clear hK K) | (refine seq_read (by rfl) (by rfl) ?_; intro K hK; go_big_quiet_op; first | go_big_quiet_on | (refine ⟨_, fun _ _ => rfl, ?_⟩; go_big_quiet_on))))
            refine seq_call (hway _) rfl Try.func17 (by kernel_rfl) (by kernel_rfl) (by rfl) (by rfl) ?_; intro K hK; rintro e w' ⟨rfl, hE⟩; refine ⟨_, rfl, hE, ?_⟩; simp only [Act.put, List.setIfInBounds_toArray, List.set_cons_zero, List.set_cons_succ]; refine hK _ _ ?_; clear hK K; replace HE := Lib.hid (HE.out.trans hE)
            replace h1 := h1.ext hE
            replace h2 := h2.ext hE
            clear hE
            refine seq_call (haq _) rfl Try.func14 (by kernel_rfl) (by kernel_rfl) (by rfl) (by rfl) ?_; intro K hK; rintro e w' ⟨rfl, hE⟩; refine ⟨_, rfl, hE, ?_⟩; simp only [Act.put, List.setIfInBounds_toArray, List.set_cons_zero, List.set_cons_succ]; refine hK _ _ ?_; clear hK K; replace HE := Lib.hid (HE.out.trans hE)
            replace h1 := h1.ext hE
            replace h2 := h2.ext hE
            clear hE
            (repeat (first | (refine seq_skip (by rfl) ?_; intro K hK; simp only [Act.put, List.setIfInBounds_toArray, List.set_cons_zero, List.set_cons_succ]; refine hK _ ?_; clear hK K) | (refine seq_skipc (by rfl) ?_; intro K hK; simp only [Act.put, List.setIfInBounds_toArray, List.set_cons_zero, List.set_cons_succ]; refine hK _ ?_; clear hK K) | (refine seq_read (by rfl) (by rfl) ?_; intro K hK; go_big_quiet_op; first | go_big_quiet_on | (refine ⟨_, fun _ _ => rfl, ?_⟩; go_big_quiet_on))))
            refine seq_done ?_
            go_wp2
            go_roundw
            case rel => exact ⟨false, n + 1, by omega, rfl, by go_num, h1, h2, HE.out, Lib.hid (by simp)⟩
            case measure => simp [intOf]; omega
          · cases ap
            · have hl : Hid (true = true → pmLess p q = true) := Lib.hid (fun _ => by
                rcases hh : pmLess p q with _ | _
                · exact absurd (hla hh rfl) (by simp)
                · rfl)
              clear hla
              go_wp2_with fail
              refine wp_region_seq [(0, false), (1, false), (2, false), (3, false), (4, true), (5, true), (6, false), (7, false), (8, false), (9, true), (10, true), (11, false), (12, false), (13, false), (14, false)] Ext (by kernel_rfl) (by kernel_rfl) Ext.refl (fun _ _ _ => Ext.trans) ?_; simp only [List.map, nth_z, nth_s]
              (repeat (first | (refine seq_skip (by rfl) ?_; intro K hK; simp only [Act.put, List.setIfInBounds_toArray, List.set_cons_zero, List.set_cons_succ]; refine hK _ ?_; clear hK K) | (refine seq_skipc (by rfl) ?_; intro K hK; simp only [Act.put, List.setIfInBounds_toArray, List.set_cons_zero, List.set_cons_succ]; refine hK _ ?_; clear hK K) | (refine seq_read (by rfl) (by rfl) ?_; intro K hK; go_big_quiet_op; first | go_big_quiet_on | (refine ⟨_, fun _ _ => rfl, ?_⟩; go_big_quiet_on))))
              refine seq_load rfl rfl (fun x hx => Blk.ext (h2) hx) rfl Try.underlying23 (by kernel_rfl) (by rfl) ?_; intro K hK; simp only [Act.put, List.setIfInBounds_toArray, List.set_cons_zero, List.set_cons_succ]; refine hK _ ?_; clear hK K
              (repeat (first | (refine seq_skip (by rfl) ?_; intro K hK; simp only [Act.put, List.setIfInBounds_toArray, List.set_cons_zero, List.set_cons_succ]; refine hK _ ?_; clear hK K) | (refine seq_skipc (by rfl) ?_; intro K hK; simp only [Act.put, List.setIfInBounds_toArray, List.set_cons_zero, List.set_cons_succ]; refine hK _ ?_; clear hK K) | (refine seq_read (by rfl) (by rfl) ?_; intro K hK; go_big_quiet_op; first | go_big_quiet_on | (refine ⟨_, fun _ _ => rfl, ?_⟩; go_big_quiet_on))))
              refine seq_call (hway _) rfl Try.func17 (by kernel_rfl) (by kernel_rfl) (by rfl) (by rfl) ?_; intro K hK; rintro e w' ⟨rfl, hE⟩; refine ⟨_, rfl, hE, ?_⟩; simp only [Act.put, List.setIfInBounds_toArray, List.set_cons_zero, List.set_cons_succ]; refine hK _ _ ?_; clear hK K; replace HE := Lib.hid (HE.out.trans hE)
              replace h1 := h1.ext hE
              replace h2 := h2.ext hE
              clear hE
              refine seq_call (haq _) rfl Try.func14 (by kernel_rfl) (by kernel_rfl) (by rfl) (by rfl) ?_; intro K hK; rintro e w' ⟨rfl, hE⟩; refine ⟨_, rfl, hE, ?_⟩; simp only [Act.put, List.setIfInBounds_toArray, List.set_cons_zero, List.set_cons_succ]; refine hK _ _ ?_; clear hK K; replace HE := Lib.hid (HE.out.trans hE)
              replace h1 := h1.ext hE
              replace h2 := h2.ext hE
              clear hE
              (repeat (first | (refine seq_skip (by rfl) ?_; intro K hK; simp only [Act.put, List.setIfInBounds_toArray, List.set_cons_zero, List.set_cons_succ]; refine hK _ ?_; clear hK K) | (refine seq_skipc (by rfl) ?_; intro K hK; simp only [Act.put, List.setIfInBounds_toArray, List.set_cons_zero, List.set_cons_succ]; refine hK _ ?_; clear hK K) | (refine seq_read (by rfl) (by rfl) ?_; intro K hK; go_big_quiet_op; first | go_big_quiet_on | (refine ⟨_, fun _ _ => rfl, ?_⟩; go_big_quiet_on))))
              refine seq_load rfl rfl (fun x hx => Blk.ext (h1) hx) rfl Try.underlying23 (by kernel_rfl) (by rfl) ?_; intro K hK; simp only [Act.put, List.setIfInBounds_toArray, List.set_cons_zero, List.set_cons_succ]; refine hK _ ?_; clear hK K
              (repeat (first | (refine seq_skip (by rfl) ?_; intro K hK; simp only [Act.put, List.setIfInBounds_toArray, List.set_cons_zero, List.set_cons_succ]; refine hK _ ?_; clear hK K) | (refine seq_skipc (by rfl) ?_; intro K hK; simp only [Act.put, List.setIfInBounds_toArray, List.set_cons_zero, List.set_cons_succ]; refine hK _ ?_; clear hK K) | (refine seq_read (by rfl) (by rfl) ?_; intro K hK; go_big_quiet_op; first | go_big_quiet_on | (refine ⟨_, fun _ _ => rfl, ?_⟩; go_big_quiet_on))))
              refine seq_call (hway _) rfl Try.func17 (by kernel_rfl) (by kernel_rfl) (by rfl) (by rfl) ?_; intro K hK; rintro e w' ⟨rfl, hE⟩; refine ⟨_, rfl, hE, ?_⟩; simp only [Act.put, List.setIfInBounds_toArray, List.set_cons_zero, List.set_cons_succ]; refine hK _ _ ?_; clear hK K; replace HE := Lib.hid (HE.out.trans hE)
              replace h1 := h1.ext hE
              replace h2 := h2.ext hE
              clear hE
              refine seq_call (hap _) rfl Try.func14 (by kernel_rfl) (by kernel_rfl) (by rfl) (by rfl) ?_; intro K hK; rintro e w' ⟨rfl, hE⟩; refine ⟨_, rfl, hE, ?_⟩; simp only [Act.put, List.setIfInBounds_toArray, List.set_cons_zero, List.set_cons_succ]; refine hK _ _ ?_; clear hK K; replace HE := Lib.hid (HE.out.trans hE)
              replace h1 := h1.ext hE
              replace h2 := h2.ext hE
              clear hE
              (repeat (first | (refine seq_skip (by rfl) ?_; intro K hK; simp only [Act.put, List.setIfInBounds_toArray, List.set_cons_zero, List.set_cons_succ]; refine hK _ ?_; clear hK K) | (refine seq_skipc (by rfl) ?_; intro K hK; simp only [Act.put, List.setIfInBounds_toArray, List.set_cons_zero, List.set_cons_succ]; refine hK _ ?_; clear hK K) | (refine seq_read (by rfl) (by rfl) ?_; intro K hK; go_big_quiet_op; first | go_big_quiet_on | (refine ⟨_, fun _ _ => rfl, ?_⟩; go_big_quiet_on))))
              refine seq_done ?_
              go_wp2
              go_roundw
              case rel => exact ⟨true, n + 1, by omega, rfl, by go_num, h1, h2, HE.out, Lib.hid (fun _ => hl.out (by trivial))⟩
              case measure => simp [intOf]; omega
            · clear hla
              go_wp2_with fail
              refine wp_region_seq [(0, false), (1, false), (2, false), (3, false), (4, true), (5, true), (6, false), (7, false), (8, false), (9, true), (10, true), (11, false), (12, false), (13, false), (14, false)] Ext (by kernel_rfl) (by kernel_rfl) Ext.refl (fun _ _ _ => Ext.trans) ?_; simp only [List.map, nth_z, nth_s]
              (repeat (first | (refine seq_skip (by rfl) ?_; intro K hK; simp only [Act.put, List.setIfInBounds_toArray, List.set_cons_zero, List.set_cons_succ]; refine hK _ ?_; clear hK K) | (refine seq_skipc (by rfl) ?_; intro K hK; simp only [Act.put, List.setIfInBounds_toArray, List.set_cons_zero, List.set_cons_succ]; refine hK _ ?_; clear hK K) | (refine seq_read (by rfl) (by rfl) ?_; intro K hK; go_big_quiet_op; first | go_big_quiet_on | (refine ⟨_, fun _ _ => rfl, ?_⟩; go_big_quiet_on))))
              refine seq_load rfl rfl (fun x hx => Blk.ext (h2) hx) rfl Try.underlying23 (by kernel_rfl) (by rfl) ?_; intro K hK; simp only [Act.put, List.setIfInBounds_toArray, List.set_cons_zero, List.set_cons_succ]; refine hK _ ?_; clear hK K
              (repeat (first | (refine seq_skip (by rfl) ?_; intro K hK; simp only [Act.put, List.setIfInBounds_toArray, List.set_cons_zero, List.set_cons_succ]; refine hK _ ?_; clear hK K) | (refine seq_skipc (by rfl) ?_; intro K hK; simp only [Act.put, List.setIfInBounds_toArray, List.set_cons_zero, List.set_cons_succ]; refine hK _ ?_; clear hK K) | (refine seq_read (by rfl) (by rfl) ?_; intro K hK; go_big_quiet_op; first | go_big_quiet_on | (refine ⟨_, fun _ _ => rfl, ?_⟩; go_big_quiet_on))))
              refine seq_call (hway _) rfl Try.func17 (by kernel_rfl) (by kernel_rfl) (by rfl) (by rfl) ?_; intro K hK; rintro e w' ⟨rfl, hE⟩; refine ⟨_, rfl, hE, ?_⟩; simp only [Act.put, List.setIfInBounds_toArray, List.set_cons_zero, List.set_cons_succ]; refine hK _ _ ?_; clear hK K; replace HE := Lib.hid (HE.out.trans hE)
              replace h1 := h1.ext hE
              replace h2 := h2.ext hE
              clear hE
              refine seq_call (haq _) rfl Try.func14 (by kernel_rfl) (by kernel_rfl) (by rfl) (by rfl) ?_; intro K hK; rintro e w' ⟨rfl, hE⟩; refine ⟨_, rfl, hE, ?_⟩; simp only [Act.put, List.setIfInBounds_toArray, List.set_cons_zero, List.set_cons_succ]; refine hK _ _ ?_; clear hK K; replace HE := Lib.hid (HE.out.trans hE)
              replace h1 := h1.ext hE
              replace h2 := h2.ext hE
              clear hE
              (repeat (first | (refine seq_skip (by rfl) ?_; intro K hK; simp only [Act.put, List.setIfInBounds_toArray, List.set_cons_zero, List.set_cons_succ]; refine hK _ ?_; clear hK K) | (refine seq_skipc (by rfl) ?_; intro K hK; simp only [Act.put, List.setIfInBounds_toArray, List.set_cons_zero, List.set_cons_succ]; refine hK _ ?_; clear hK K) | (refine seq_read (by rfl) (by rfl) ?_; intro K hK; go_big_quiet_op; first | go_big_quiet_on | (refine ⟨_, fun _ _ => rfl, ?_⟩; go_big_quiet_on))))
              refine seq_load rfl rfl (fun x hx => Blk.ext (h1) hx) rfl Try.underlying23 (by kernel_rfl) (by rfl) ?_; intro K hK; simp only [Act.put, List.setIfInBounds_toArray, List.set_cons_zero, List.set_cons_succ]; refine hK _ ?_; clear hK K
              (repeat (first | (refine seq_skip (by rfl) ?_; intro K hK; simp only [Act.put, List.setIfInBounds_toArray, List.set_cons_zero, List.set_cons_succ]; refine hK _ ?_; clear hK K) | (refine seq_skipc (by rfl) ?_; intro K hK; simp only [Act.put, List.setIfInBounds_toArray, List.set_cons_zero, List.set_cons_succ]; refine hK _ ?_; clear hK K) | (refine seq_read (by rfl) (by rfl) ?_; intro K hK; go_big_quiet_op; first | go_big_quiet_on | (refine ⟨_, fun _ _ => rfl, ?_⟩; go_big_quiet_on))))
              refine seq_call (hway _) rfl Try.func17 (by kernel_rfl) (by kernel_rfl) (by rfl) (by rfl) ?_; intro K hK; rintro e w' ⟨rfl, hE⟩; refine ⟨_, rfl, hE, ?_⟩; simp only [Act.put, List.setIfInBounds_toArray, List.set_cons_zero, List.set_cons_succ]; refine hK _ _ ?_; clear hK K; replace HE := Lib.hid (HE.out.trans hE)
              replace h1 := h1.ext hE
              replace h2 := h2.ext hE
              clear hE
              refine seq_call (hap _) rfl Try.func14 (by kernel_rfl) (by kernel_rfl) (by rfl) (by rfl) ?_; intro K hK; rintro e w' ⟨rfl, hE⟩; refine ⟨_, rfl, hE, ?_⟩; simp only [Act.put, List.setIfInBounds_toArray, List.set_cons_zero, List.set_cons_succ]; refine hK _ _ ?_; clear hK K; replace HE := Lib.hid (HE.out.trans hE)
              replace h1 := h1.ext hE
              replace h2 := h2.ext hE
              clear hE
              (repeat (first | (refine seq_skip (by rfl) ?_; intro K hK; simp only [Act.put, List.setIfInBounds_toArray, List.set_cons_zero, List.set_cons_succ]; refine hK _ ?_; clear hK K) | (refine seq_skipc (by rfl) ?_; intro K hK; simp only [Act.put, List.setIfInBounds_toArray, List.set_cons_zero, List.set_cons_succ]; refine hK _ ?_; clear hK K) | (refine seq_read (by rfl) (by rfl) ?_; intro K hK; go_big_quiet_op; first | go_big_quiet_on | (refine ⟨_, fun _ _ => rfl, ?_⟩; go_big_quiet_on))))
              refine seq_done ?_
              go_wp2
              go_roundw
              case rel => exact ⟨false, n + 1, by omega, rfl, by go_num, h1, h2, HE.out, Lib.hid (by simp)⟩
              case measure => simp [intOf]; omega
        · clear hla
          go_wp2_with fail
          refine wp_region_seq [(0, false), (1, false), (2, false), (3, false), (4, true), (5, true), (6, false), (7, false), (8, false), (9, true), (10, true), (11, false), (12, false), (13, false), (14, false)] Ext (by kernel_rfl) (by kernel_rfl) Ext.refl (fun _ _ _ => Ext.trans) ?_; simp only [List.map, nth_z, nth_s]
          (repeat (first | (refine seq_skip (by rfl) ?_; intro K hK; simp only [Act.put, List.setIfInBounds_toArray, List.set_cons_zero, List.set_cons_succ]; refine hK _ ?_; clear hK K) | (refine seq_skipc (by rfl) ?_; intro K hK; simp only [Act.put, List.setIfInBounds_toArray, List.set_cons_zero, List.set_cons_succ]; refine hK _ ?_; clear hK K) | (refine seq_read (by rfl) (by rfl) ?_; intro K hK; go_big_quiet_op; first | go_big_quiet_on | (refine ⟨_, fun _ _ => rfl, ?_⟩; go_big_quiet_on))))
          refine seq_done ?_
          go_wp2
          go_roundw
          case rel => exact ⟨true, n + 1, by omega, rfl, by go_num, h1, h2, HE.out, Lib.hid (fun _ => hb.out (by trivial))⟩
          case measure => simp [intOf]; omega
      · obtain rfl : n = 24 := by omega
        replace HE := Lib.hid HE
        cases b
        · go_wp2
          go_ret
          exact ⟨rfl, HE.out⟩
        · have hl := less8_c p q
          rw [hb.out rfl] at hl
          go_wp2_with first | (refine wpList_load_blk (by rfl) 23 _ rfl rfl (by assumption) Try.underlying23 rfl (by kernel_rfl) ?_)
          refine (hl _).mono ?_
          rintro e w9 ⟨rfl, hE⟩
          replace HE := Lib.hid (HE.out.trans hE)
          clear hE
          go_wp2
          go_ret
          exact ⟨rfl, HE.out⟩
end Go.Proofs.Ythmfgiodidaofaa
