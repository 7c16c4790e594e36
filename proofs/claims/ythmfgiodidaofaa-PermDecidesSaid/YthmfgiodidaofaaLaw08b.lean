/- PermDecides. -/
import Derived.Test.YthmfgiodidaofaaLaw08a
namespace Go.Proofs.Ythmfgiodidaofaa
open Go.ChangeShapes Go.WideShapes Go.ChangeAt Go.RowKit
set_option linter.unusedVariables false
set_option linter.unusedSimpArgs false

theorem al8_m (p : Pm) (k v : Int) (s m b : Bool) (h : wyIs ⟨k, v, s, m⟩ = true) (hb : pmAl p ⟨k, v, s, m⟩ = b) (w : World) :
    Calls Try.prog 14 #[.agg (pmC p), .agg #[.int .i64 k, .int .i64 v, .bool s, .bool m]] w fun e w' => e = .returned (.bool b) ∧ Ext w w' := by
  have h := al8_c p ⟨k, v, s, m⟩ h w
  rwa [wyC_def, hb] at h
set_option maxRecDepth 100000 in
set_option maxHeartbeats 4000000 in
theorem PermDecides_w (a : Nat) (ha : a < 256) (w : World) :
    Calls Try.prog 4 #[.int .u8 (a : Int)] w fun e w' => e = .returned (.bool true) ∧ Ext w w' := by
  have hnum := number_c a ha
  obtain ⟨p, hp⟩ : ∃ p, p = nmP a := ⟨_, rfl⟩
  rw [← hp] at hnum
  clear hp
  have HE := Lib.hid (Ext.refl w)
  go_enter Try.func4, Try.ntmps4
  go_wp2_with fail; refine (awake8_c _).mono ?_; rintro e w1 ⟨rfl, hE⟩; replace HE := Lib.hid (HE.out.trans hE)
  clear hE
  go_wp2_with fail; refine (hnum _).mono ?_; rintro e w2 ⟨rfl, hE⟩; replace HE := Lib.hid (HE.out.trans hE)
  clear hE hnum
  replace HE := Lib.hid (HE.out.alloc (.cells (pmC p) 23))
  have hb := Blk.new w2 23 (pmC p)
  go_wp2_with (refine wpList_store_new rfl 23 _ _ rfl (pmC _) _ _ rfl rfl (pm_info _) (by simp [pmC_size]) (pmC_one _) ?_)
  go_loopw [4] (fun c wr => ∃ n : Nat, n ≤ 24 ∧ c = .int .u8 n ∧ Blk wr w2.heap.size 23 (pmC p) ∧ Ext w wr) (fun c _ => 24 - (intOf c).toNat)
  case atStart => exact ⟨0, by omega, rfl, hb, HE.out⟩
  case round =>
    obtain ⟨n, hn, rfl, hb, HE⟩ := hrel
    by_cases hlt : n < 24
    · obtain ⟨Y, hY⟩ : ∃ Y, Y = nmW n := ⟨_, rfl⟩
      have hyis : wyIs Y = true := by rw [hY]; exact nmW_is n
      have hway := way_c n (by omega)
      rw [← hY] at hway
      clear hY
      have hmore := fun h => more_al (p := p) (w := Y) h
      have hfet := fun h0 h => fetch_al (p := p) hyis h0 h
      have hc := (wy_cases hyis).1
      have hv := (wy_cases hyis).2
      obtain ⟨k, v, s, m⟩ := Y
      simp only at hmore hfet hc hv
      rw [wyC_def] at hway
      replace HE := Lib.hid HE
      have hyo : wyIs ⟨k, 1 - v, s, m⟩ = true := wy_of ⟨hc, by rcases hv with h | h <;> simp [h]⟩
      have hym : wyIs ⟨k, v, true, true⟩ = true := wy_of ⟨hc, hv⟩
      have v0 : 0 ≤ v := by omega
      have v1 : v ≤ 1 := by omega
      have hkk : (k == 0) = decide (k = 0) := by rw [Bool.eq_iff_iff, beq_iff_eq, decide_eq_true_iff]
      have hA1 := fun b (h : pmAl p ⟨k, v, s, m⟩ = b) => al8_m p k v s m b hyis h
      have hA2 := fun b (h : pmAl p ⟨k, v, true, true⟩ = b) => al8_m p k v true true b hym h
      have hA3 := fun b (h : pmAl p ⟨k, 1 - v, s, m⟩ = b) => al8_m p k (1 - v) s m b hyo h
      clear hv hc hym hyo
      go_wp2_with fail
      refine (hway _).mono ?_
      rintro e w3 ⟨rfl, hE⟩
      replace HE := Lib.hid ((((HE.out.trans hE).alloc (.cells #[.int .i64 k, .int .i64 v, .bool s, .bool m] 25)).alloc (.cells #[.int .i64 k, .int .i64 v, .bool true, .bool true] 25)).alloc (.cells #[.int .i64 k, .int .i64 (1 - v), .bool s, .bool m] 25))
      replace hb := (((hb.ext hE).alloc (.cells #[.int .i64 k, .int .i64 v, .bool s, .bool m] 25)).alloc (.cells #[.int .i64 k, .int .i64 v, .bool true, .bool true] 25)).alloc (.cells #[.int .i64 k, .int .i64 (1 - v), .bool s, .bool m] 25)
      have h1 := ((Blk.new w3 25 #[.int .i64 k, .int .i64 v, .bool s, .bool m]).alloc (.cells #[.int .i64 k, .int .i64 v, .bool true, .bool true] 25)).alloc (.cells #[.int .i64 k, .int .i64 (1 - v), .bool s, .bool m] 25)
      have h2 : Blk _ (w3.heap.size + 1) 25 _ := (blk_at (w := w3.alloc (.cells #[.int .i64 k, .int .i64 v, .bool s, .bool m] 25)) (t := 25) (cs := #[.int .i64 k, .int .i64 v, .bool true, .bool true]) (by simp)).alloc (.cells #[.int .i64 k, .int .i64 (1 - v), .bool s, .bool m] 25)
      have h3 : Blk _ (w3.heap.size + 1 + 1) 25 _ := blk_at (w := (w3.alloc (.cells #[.int .i64 k, .int .i64 v, .bool s, .bool m] 25)).alloc (.cells #[.int .i64 k, .int .i64 v, .bool true, .bool true] 25)) (t := 25) (cs := #[.int .i64 k, .int .i64 (1 - v), .bool s, .bool m]) (by simp)
      have c1 := h1.cell 0
      simp only [List.getElem?_toArray, List.getElem?_cons_zero] at c1
      clear hE hway
      generalize hk : decide (k = 0) = kb at hkk
      rcases ha1 : pmAl p ⟨k, v, s, m⟩ with _ | _
      · replace hA1 := hA1 _ ha1
        clear hA2 hA3 hmore hfet
        cases kb
        · skip
          go_wp2_with first | (refine wpList_load_blk (by rfl) 23 _ rfl rfl (by assumption) Try.underlying23 rfl (by kernel_rfl) ?_) | (refine wpList_load_blk (by rfl) 25 _ rfl rfl (by assumption) Try.underlying25 rfl (by kernel_rfl) ?_)
          refine (hA1 _).mono ?_
          rintro e w4 ⟨rfl, hE⟩
          replace HE := Lib.hid (HE.out.trans hE)
          replace hb := hb.ext hE
          replace h1 := h1.ext hE
          replace h2 := h2.ext hE
          replace h3 := h3.ext hE
          replace c1 := ext_cell hE c1
          clear hE
          go_wp2_with first | (refine wpList_load_blk (by rfl) 23 _ rfl rfl (by assumption) Try.underlying23 rfl (by kernel_rfl) ?_) | (refine wpList_load_blk (by rfl) 25 _ rfl rfl (by assumption) Try.underlying25 rfl (by kernel_rfl) ?_)
          clear h2 h3 c1
          go_loopw [8] (fun c wr => ∃ b : Nat, b ≤ 16 ∧ c = .int .u8 b ∧ Blk wr w2.heap.size 23 (pmC p) ∧ Blk wr w3.heap.size 25 #[.int .i64 k, .int .i64 v, .bool s, .bool m] ∧ Ext w wr) (fun c _ => 16 - (intOf c).toNat)
          case atStart => exact ⟨0, by omega, rfl, hb, h1, HE.out⟩
          case round =>
            clear hb h1 HE
            obtain ⟨b, hbn, rfl, hb, h1, HE⟩ := hrel
            by_cases hbl : b < 16
            · obtain ⟨q, hq⟩ : ∃ q, q = nmP b := ⟨_, rfl⟩
              have hnum := number_c b (by omega)
              rw [← hq] at hnum
              have hless := less8_c p q
              have hAq := al8_m q k v s m _ hyis rfl
              have hla := fun h h' => less_al (p := p) (q := q) (w := ⟨k, v, s, m⟩) h h'
              rw [ha1] at hla
              generalize pmLess p q = l at hless hla
              generalize pmAl q ⟨k, v, s, m⟩ = aq at hAq hla
              clear hq
              replace HE := Lib.hid HE.drew
              replace hb := hb.drew
              replace h1 := h1.drew
              cases l
              · cases aq
                · skip
                  go_wp2_with fail
                  refine wp_region_seq [(0, false), (1, false), (2, true), (3, true), (4, false), (5, false), (6, false), (8, false), (7, true), (9, true), (10, false), (11, false), (12, false), (13, false), (14, true), (15, false), (16, false)] Ext (by kernel_rfl) (by kernel_rfl) Ext.refl (fun _ _ _ => Ext.trans) ?_; simp only [List.map, nth_z, nth_s]
                  refine seq_load rfl rfl (fun x hx => Blk.ext (hb) hx) rfl Try.underlying23 (by kernel_rfl) (by rfl) ?_; intro K hK; simp only [Act.put, List.setIfInBounds_toArray, List.set_cons_zero, List.set_cons_succ]; refine hK _ ?_; clear hK K
                  (repeat (first | (refine seq_skip (by rfl) ?_; intro K hK; simp only [Act.put, List.setIfInBounds_toArray, List.set_cons_zero, List.set_cons_succ]; refine hK _ ?_; clear hK K) | (refine seq_skipc (by rfl) ?_; intro K hK; simp only [Act.put, List.setIfInBounds_toArray, List.set_cons_zero, List.set_cons_succ]; refine hK _ ?_; clear hK K) | (refine seq_read (by rfl) (by rfl) ?_; intro K hK; go_big_quiet_op; first | go_big_quiet_on | (refine ⟨_, fun _ _ => rfl, ?_⟩; go_big_quiet_on))))
                  refine seq_call (hnum _) rfl Try.func16 (by kernel_rfl) (by kernel_rfl) (by rfl) (by rfl) ?_; intro K hK; rintro e w' ⟨rfl, hE⟩; refine ⟨_, rfl, hE, ?_⟩; simp only [Act.put, List.setIfInBounds_toArray, List.set_cons_zero, List.set_cons_succ]; refine hK _ _ ?_; clear hK K; replace HE := Lib.hid (HE.out.trans hE)
                  replace hb := hb.ext hE
                  replace h1 := h1.ext hE
                  clear hE
                  refine seq_call (hless _) rfl Try.func12 (by kernel_rfl) (by kernel_rfl) (by rfl) (by rfl) ?_; intro K hK; rintro e w' ⟨rfl, hE⟩; refine ⟨_, rfl, hE, ?_⟩; simp only [Act.put, List.setIfInBounds_toArray, List.set_cons_zero, List.set_cons_succ]; refine hK _ _ ?_; clear hK K; replace HE := Lib.hid (HE.out.trans hE)
                  replace hb := hb.ext hE
                  replace h1 := h1.ext hE
                  clear hE
                  (repeat (first | (refine seq_skip (by rfl) ?_; intro K hK; simp only [Act.put, List.setIfInBounds_toArray, List.set_cons_zero, List.set_cons_succ]; refine hK _ ?_; clear hK K) | (refine seq_skipc (by rfl) ?_; intro K hK; simp only [Act.put, List.setIfInBounds_toArray, List.set_cons_zero, List.set_cons_succ]; refine hK _ ?_; clear hK K) | (refine seq_read (by rfl) (by rfl) ?_; intro K hK; go_big_quiet_op; first | go_big_quiet_on | (refine ⟨_, fun _ _ => rfl, ?_⟩; go_big_quiet_on))))
                  refine seq_load rfl rfl (fun x hx => Blk.ext (h1) hx) rfl Try.underlying25 (by kernel_rfl) (by rfl) ?_; intro K hK; simp only [Act.put, List.setIfInBounds_toArray, List.set_cons_zero, List.set_cons_succ]; refine hK _ ?_; clear hK K
                  refine seq_call (hnum _) rfl Try.func16 (by kernel_rfl) (by kernel_rfl) (by rfl) (by rfl) ?_; intro K hK; rintro e w' ⟨rfl, hE⟩; refine ⟨_, rfl, hE, ?_⟩; simp only [Act.put, List.setIfInBounds_toArray, List.set_cons_zero, List.set_cons_succ]; refine hK _ _ ?_; clear hK K; replace HE := Lib.hid (HE.out.trans hE)
                  replace hb := hb.ext hE
                  replace h1 := h1.ext hE
                  clear hE
                  refine seq_call (hAq _) rfl Try.func14 (by kernel_rfl) (by kernel_rfl) (by rfl) (by rfl) ?_; intro K hK; rintro e w' ⟨rfl, hE⟩; refine ⟨_, rfl, hE, ?_⟩; simp only [Act.put, List.setIfInBounds_toArray, List.set_cons_zero, List.set_cons_succ]; refine hK _ _ ?_; clear hK K; replace HE := Lib.hid (HE.out.trans hE)
                  replace hb := hb.ext hE
                  replace h1 := h1.ext hE
                  clear hE
                  (repeat (first | (refine seq_skip (by rfl) ?_; intro K hK; simp only [Act.put, List.setIfInBounds_toArray, List.set_cons_zero, List.set_cons_succ]; refine hK _ ?_; clear hK K) | (refine seq_skipc (by rfl) ?_; intro K hK; simp only [Act.put, List.setIfInBounds_toArray, List.set_cons_zero, List.set_cons_succ]; refine hK _ ?_; clear hK K) | (refine seq_read (by rfl) (by rfl) ?_; intro K hK; go_big_quiet_op; first | go_big_quiet_on | (refine ⟨_, fun _ _ => rfl, ?_⟩; go_big_quiet_on))))
                  refine seq_done ?_
                  go_wp2
                  go_roundw
                  case rel => exact ⟨b + 1, by omega, by go_num, hb, h1, HE.out⟩
                  case measure => simp [intOf]; omega
                · have h9 := hla rfl rfl
                  first
                    | (exact absurd h9 (by decide))
                    | (clear h9
                       go_wp2_with fail
                       refine wp_region_seq [(0, false), (1, false), (2, true), (3, true), (4, false), (5, false), (6, false), (8, false), (7, true), (9, true), (10, false), (11, false), (12, false), (13, false), (14, true), (15, false), (16, false)] Ext (by kernel_rfl) (by kernel_rfl) Ext.refl (fun _ _ _ => Ext.trans) ?_; simp only [List.map, nth_z, nth_s]
                       refine seq_load rfl rfl (fun x hx => Blk.ext (hb) hx) rfl Try.underlying23 (by kernel_rfl) (by rfl) ?_; intro K hK; simp only [Act.put, List.setIfInBounds_toArray, List.set_cons_zero, List.set_cons_succ]; refine hK _ ?_; clear hK K
                       (repeat (first | (refine seq_skip (by rfl) ?_; intro K hK; simp only [Act.put, List.setIfInBounds_toArray, List.set_cons_zero, List.set_cons_succ]; refine hK _ ?_; clear hK K) | (refine seq_skipc (by rfl) ?_; intro K hK; simp only [Act.put, List.setIfInBounds_toArray, List.set_cons_zero, List.set_cons_succ]; refine hK _ ?_; clear hK K) | (refine seq_read (by rfl) (by rfl) ?_; intro K hK; go_big_quiet_op; first | go_big_quiet_on | (refine ⟨_, fun _ _ => rfl, ?_⟩; go_big_quiet_on))))
                       refine seq_call (hnum _) rfl Try.func16 (by kernel_rfl) (by kernel_rfl) (by rfl) (by rfl) ?_; intro K hK; rintro e w' ⟨rfl, hE⟩; refine ⟨_, rfl, hE, ?_⟩; simp only [Act.put, List.setIfInBounds_toArray, List.set_cons_zero, List.set_cons_succ]; refine hK _ _ ?_; clear hK K; replace HE := Lib.hid (HE.out.trans hE)
                       replace hb := hb.ext hE
                       replace h1 := h1.ext hE
                       clear hE
                       refine seq_call (hless _) rfl Try.func12 (by kernel_rfl) (by kernel_rfl) (by rfl) (by rfl) ?_; intro K hK; rintro e w' ⟨rfl, hE⟩; refine ⟨_, rfl, hE, ?_⟩; simp only [Act.put, List.setIfInBounds_toArray, List.set_cons_zero, List.set_cons_succ]; refine hK _ _ ?_; clear hK K; replace HE := Lib.hid (HE.out.trans hE)
                       replace hb := hb.ext hE
                       replace h1 := h1.ext hE
                       clear hE
                       (repeat (first | (refine seq_skip (by rfl) ?_; intro K hK; simp only [Act.put, List.setIfInBounds_toArray, List.set_cons_zero, List.set_cons_succ]; refine hK _ ?_; clear hK K) | (refine seq_skipc (by rfl) ?_; intro K hK; simp only [Act.put, List.setIfInBounds_toArray, List.set_cons_zero, List.set_cons_succ]; refine hK _ ?_; clear hK K) | (refine seq_read (by rfl) (by rfl) ?_; intro K hK; go_big_quiet_op; first | go_big_quiet_on | (refine ⟨_, fun _ _ => rfl, ?_⟩; go_big_quiet_on))))
                       refine seq_load rfl rfl (fun x hx => Blk.ext (h1) hx) rfl Try.underlying25 (by kernel_rfl) (by rfl) ?_; intro K hK; simp only [Act.put, List.setIfInBounds_toArray, List.set_cons_zero, List.set_cons_succ]; refine hK _ ?_; clear hK K
                       refine seq_call (hnum _) rfl Try.func16 (by kernel_rfl) (by kernel_rfl) (by rfl) (by rfl) ?_; intro K hK; rintro e w' ⟨rfl, hE⟩; refine ⟨_, rfl, hE, ?_⟩; simp only [Act.put, List.setIfInBounds_toArray, List.set_cons_zero, List.set_cons_succ]; refine hK _ _ ?_; clear hK K; replace HE := Lib.hid (HE.out.trans hE)
                       replace hb := hb.ext hE
                       replace h1 := h1.ext hE
                       clear hE
                       refine seq_call (hAq _) rfl Try.func14 (by kernel_rfl) (by kernel_rfl) (by rfl) (by rfl) ?_; intro K hK; rintro e w' ⟨rfl, hE⟩; refine ⟨_, rfl, hE, ?_⟩; simp only [Act.put, List.setIfInBounds_toArray, List.set_cons_zero, List.set_cons_succ]; refine hK _ _ ?_; clear hK K; replace HE := Lib.hid (HE.out.trans hE)
                       replace hb := hb.ext hE
                       replace h1 := h1.ext hE
                       clear hE
                       (repeat (first | (refine seq_skip (by rfl) ?_; intro K hK; simp only [Act.put, List.setIfInBounds_toArray, List.set_cons_zero, List.set_cons_succ]; refine hK _ ?_; clear hK K) | (refine seq_skipc (by rfl) ?_; intro K hK; simp only [Act.put, List.setIfInBounds_toArray, List.set_cons_zero, List.set_cons_succ]; refine hK _ ?_; clear hK K) | (refine seq_read (by rfl) (by rfl) ?_; intro K hK; go_big_quiet_op; first | go_big_quiet_on | (refine ⟨_, fun _ _ => rfl, ?_⟩; go_big_quiet_on))))
                       refine seq_load rfl rfl (fun x hx => Blk.ext (hb) hx) rfl Try.underlying23 (by kernel_rfl) (by rfl) ?_; intro K hK; simp only [Act.put, List.setIfInBounds_toArray, List.set_cons_zero, List.set_cons_succ]; refine hK _ ?_; clear hK K
                       refine seq_load rfl rfl (fun x hx => Blk.ext (h1) hx) rfl Try.underlying25 (by kernel_rfl) (by rfl) ?_; intro K hK; simp only [Act.put, List.setIfInBounds_toArray, List.set_cons_zero, List.set_cons_succ]; refine hK _ ?_; clear hK K
                       refine seq_call (hA1 _) rfl Try.func14 (by kernel_rfl) (by kernel_rfl) (by rfl) (by rfl) ?_; intro K hK; rintro e w' ⟨rfl, hE⟩; refine ⟨_, rfl, hE, ?_⟩; simp only [Act.put, List.setIfInBounds_toArray, List.set_cons_zero, List.set_cons_succ]; refine hK _ _ ?_; clear hK K; replace HE := Lib.hid (HE.out.trans hE)
                       replace hb := hb.ext hE
                       replace h1 := h1.ext hE
                       clear hE
                       (repeat (first | (refine seq_skip (by rfl) ?_; intro K hK; simp only [Act.put, List.setIfInBounds_toArray, List.set_cons_zero, List.set_cons_succ]; refine hK _ ?_; clear hK K) | (refine seq_skipc (by rfl) ?_; intro K hK; simp only [Act.put, List.setIfInBounds_toArray, List.set_cons_zero, List.set_cons_succ]; refine hK _ ?_; clear hK K) | (refine seq_read (by rfl) (by rfl) ?_; intro K hK; go_big_quiet_op; first | go_big_quiet_on | (refine ⟨_, fun _ _ => rfl, ?_⟩; go_big_quiet_on))))
                       refine seq_done ?_
                       go_wp2
                       go_roundw
                       case rel => exact ⟨b + 1, by omega, by go_num, hb, h1, HE.out⟩
                       case measure => simp [intOf]; omega
                       )
              · skip
                go_wp2_with fail
                refine wp_region_seq [(0, false), (1, false), (2, true), (3, true), (4, false), (5, false), (6, false), (8, false), (7, true), (9, true), (10, false), (11, false), (12, false), (13, false), (14, true), (15, false), (16, false)] Ext (by kernel_rfl) (by kernel_rfl) Ext.refl (fun _ _ _ => Ext.trans) ?_; simp only [List.map, nth_z, nth_s]
                refine seq_load rfl rfl (fun x hx => Blk.ext (hb) hx) rfl Try.underlying23 (by kernel_rfl) (by rfl) ?_; intro K hK; simp only [Act.put, List.setIfInBounds_toArray, List.set_cons_zero, List.set_cons_succ]; refine hK _ ?_; clear hK K
                (repeat (first | (refine seq_skip (by rfl) ?_; intro K hK; simp only [Act.put, List.setIfInBounds_toArray, List.set_cons_zero, List.set_cons_succ]; refine hK _ ?_; clear hK K) | (refine seq_skipc (by rfl) ?_; intro K hK; simp only [Act.put, List.setIfInBounds_toArray, List.set_cons_zero, List.set_cons_succ]; refine hK _ ?_; clear hK K) | (refine seq_read (by rfl) (by rfl) ?_; intro K hK; go_big_quiet_op; first | go_big_quiet_on | (refine ⟨_, fun _ _ => rfl, ?_⟩; go_big_quiet_on))))
                refine seq_call (hnum _) rfl Try.func16 (by kernel_rfl) (by kernel_rfl) (by rfl) (by rfl) ?_; intro K hK; rintro e w' ⟨rfl, hE⟩; refine ⟨_, rfl, hE, ?_⟩; simp only [Act.put, List.setIfInBounds_toArray, List.set_cons_zero, List.set_cons_succ]; refine hK _ _ ?_; clear hK K; replace HE := Lib.hid (HE.out.trans hE)
                replace hb := hb.ext hE
                replace h1 := h1.ext hE
                clear hE
                refine seq_call (hless _) rfl Try.func12 (by kernel_rfl) (by kernel_rfl) (by rfl) (by rfl) ?_; intro K hK; rintro e w' ⟨rfl, hE⟩; refine ⟨_, rfl, hE, ?_⟩; simp only [Act.put, List.setIfInBounds_toArray, List.set_cons_zero, List.set_cons_succ]; refine hK _ _ ?_; clear hK K; replace HE := Lib.hid (HE.out.trans hE)
                replace hb := hb.ext hE
                replace h1 := h1.ext hE
                clear hE
                (repeat (first | (refine seq_skip (by rfl) ?_; intro K hK; simp only [Act.put, List.setIfInBounds_toArray, List.set_cons_zero, List.set_cons_succ]; refine hK _ ?_; clear hK K) | (refine seq_skipc (by rfl) ?_; intro K hK; simp only [Act.put, List.setIfInBounds_toArray, List.set_cons_zero, List.set_cons_succ]; refine hK _ ?_; clear hK K) | (refine seq_read (by rfl) (by rfl) ?_; intro K hK; go_big_quiet_op; first | go_big_quiet_on | (refine ⟨_, fun _ _ => rfl, ?_⟩; go_big_quiet_on))))
                refine seq_done ?_
                go_wp2
                go_roundw
                case rel => exact ⟨b + 1, by omega, by go_num, hb, h1, HE.out⟩
                case measure => simp [intOf]; omega
            · obtain rfl : b = 16 := by omega
              go_wp2
              go_roundw
              case rel => exact ⟨n + 1, by omega, by go_num, hb, HE⟩
              case measure => simp [intOf]; omega
        · skip
          go_wp2_with first | (refine wpList_load_blk (by rfl) 23 _ rfl rfl (by assumption) Try.underlying23 rfl (by kernel_rfl) ?_) | (refine wpList_load_blk (by rfl) 25 _ rfl rfl (by assumption) Try.underlying25 rfl (by kernel_rfl) ?_)
          refine (hA1 _).mono ?_
          rintro e w4 ⟨rfl, hE⟩
          replace HE := Lib.hid (HE.out.trans hE)
          replace hb := hb.ext hE
          replace h1 := h1.ext hE
          replace h2 := h2.ext hE
          replace h3 := h3.ext hE
          replace c1 := ext_cell hE c1
          clear hE
          go_wp2_with first | (refine wpList_load_blk (by rfl) 23 _ rfl rfl (by assumption) Try.underlying23 rfl (by kernel_rfl) ?_) | (refine wpList_load_blk (by rfl) 25 _ rfl rfl (by assumption) Try.underlying25 rfl (by kernel_rfl) ?_)
          refine (hA1 _).mono ?_
          rintro e w4 ⟨rfl, hE⟩
          replace HE := Lib.hid (HE.out.trans hE)
          replace hb := hb.ext hE
          replace h1 := h1.ext hE
          replace h2 := h2.ext hE
          replace h3 := h3.ext hE
          replace c1 := ext_cell hE c1
          clear hE
          go_wp2_with first | (refine wpList_load_blk (by rfl) 23 _ rfl rfl (by assumption) Try.underlying23 rfl (by kernel_rfl) ?_) | (refine wpList_load_blk (by rfl) 25 _ rfl rfl (by assumption) Try.underlying25 rfl (by kernel_rfl) ?_)
          clear h2 h3 c1
          go_loopw [8] (fun c wr => ∃ b : Nat, b ≤ 16 ∧ c = .int .u8 b ∧ Blk wr w2.heap.size 23 (pmC p) ∧ Blk wr w3.heap.size 25 #[.int .i64 k, .int .i64 v, .bool s, .bool m] ∧ Ext w wr) (fun c _ => 16 - (intOf c).toNat)
          case atStart => exact ⟨0, by omega, rfl, hb, h1, HE.out⟩
          case round =>
            clear hb h1 HE
            obtain ⟨b, hbn, rfl, hb, h1, HE⟩ := hrel
            by_cases hbl : b < 16
            · obtain ⟨q, hq⟩ : ∃ q, q = nmP b := ⟨_, rfl⟩
              have hnum := number_c b (by omega)
              rw [← hq] at hnum
              have hless := less8_c p q
              have hAq := al8_m q k v s m _ hyis rfl
              have hla := fun h h' => less_al (p := p) (q := q) (w := ⟨k, v, s, m⟩) h h'
              rw [ha1] at hla
              generalize pmLess p q = l at hless hla
              generalize pmAl q ⟨k, v, s, m⟩ = aq at hAq hla
              clear hq
              replace HE := Lib.hid HE.drew
              replace hb := hb.drew
              replace h1 := h1.drew
              cases l
              · cases aq
                · skip
                  go_wp2_with fail
                  refine wp_region_seq [(0, false), (1, false), (2, true), (3, true), (4, false), (5, false), (6, false), (8, false), (7, true), (9, true), (10, false), (11, false), (12, false), (13, false), (14, true), (15, false), (16, false)] Ext (by kernel_rfl) (by kernel_rfl) Ext.refl (fun _ _ _ => Ext.trans) ?_; simp only [List.map, nth_z, nth_s]
                  refine seq_load rfl rfl (fun x hx => Blk.ext (hb) hx) rfl Try.underlying23 (by kernel_rfl) (by rfl) ?_; intro K hK; simp only [Act.put, List.setIfInBounds_toArray, List.set_cons_zero, List.set_cons_succ]; refine hK _ ?_; clear hK K
                  (repeat (first | (refine seq_skip (by rfl) ?_; intro K hK; simp only [Act.put, List.setIfInBounds_toArray, List.set_cons_zero, List.set_cons_succ]; refine hK _ ?_; clear hK K) | (refine seq_skipc (by rfl) ?_; intro K hK; simp only [Act.put, List.setIfInBounds_toArray, List.set_cons_zero, List.set_cons_succ]; refine hK _ ?_; clear hK K) | (refine seq_read (by rfl) (by rfl) ?_; intro K hK; go_big_quiet_op; first | go_big_quiet_on | (refine ⟨_, fun _ _ => rfl, ?_⟩; go_big_quiet_on))))
                  refine seq_call (hnum _) rfl Try.func16 (by kernel_rfl) (by kernel_rfl) (by rfl) (by rfl) ?_; intro K hK; rintro e w' ⟨rfl, hE⟩; refine ⟨_, rfl, hE, ?_⟩; simp only [Act.put, List.setIfInBounds_toArray, List.set_cons_zero, List.set_cons_succ]; refine hK _ _ ?_; clear hK K; replace HE := Lib.hid (HE.out.trans hE)
                  replace hb := hb.ext hE
                  replace h1 := h1.ext hE
                  clear hE
                  refine seq_call (hless _) rfl Try.func12 (by kernel_rfl) (by kernel_rfl) (by rfl) (by rfl) ?_; intro K hK; rintro e w' ⟨rfl, hE⟩; refine ⟨_, rfl, hE, ?_⟩; simp only [Act.put, List.setIfInBounds_toArray, List.set_cons_zero, List.set_cons_succ]; refine hK _ _ ?_; clear hK K; replace HE := Lib.hid (HE.out.trans hE)
                  replace hb := hb.ext hE
                  replace h1 := h1.ext hE
                  clear hE
                  (repeat (first | (refine seq_skip (by rfl) ?_; intro K hK; simp only [Act.put, List.setIfInBounds_toArray, List.set_cons_zero, List.set_cons_succ]; refine hK _ ?_; clear hK K) | (refine seq_skipc (by rfl) ?_; intro K hK; simp only [Act.put, List.setIfInBounds_toArray, List.set_cons_zero, List.set_cons_succ]; refine hK _ ?_; clear hK K) | (refine seq_read (by rfl) (by rfl) ?_; intro K hK; go_big_quiet_op; first | go_big_quiet_on | (refine ⟨_, fun _ _ => rfl, ?_⟩; go_big_quiet_on))))
                  refine seq_load rfl rfl (fun x hx => Blk.ext (h1) hx) rfl Try.underlying25 (by kernel_rfl) (by rfl) ?_; intro K hK; simp only [Act.put, List.setIfInBounds_toArray, List.set_cons_zero, List.set_cons_succ]; refine hK _ ?_; clear hK K
                  refine seq_call (hnum _) rfl Try.func16 (by kernel_rfl) (by kernel_rfl) (by rfl) (by rfl) ?_; intro K hK; rintro e w' ⟨rfl, hE⟩; refine ⟨_, rfl, hE, ?_⟩; simp only [Act.put, List.setIfInBounds_toArray, List.set_cons_zero, List.set_cons_succ]; refine hK _ _ ?_; clear hK K; replace HE := Lib.hid (HE.out.trans hE)
                  replace hb := hb.ext hE
                  replace h1 := h1.ext hE
                  clear hE
                  refine seq_call (hAq _) rfl Try.func14 (by kernel_rfl) (by kernel_rfl) (by rfl) (by rfl) ?_; intro K hK; rintro e w' ⟨rfl, hE⟩; refine ⟨_, rfl, hE, ?_⟩; simp only [Act.put, List.setIfInBounds_toArray, List.set_cons_zero, List.set_cons_succ]; refine hK _ _ ?_; clear hK K; replace HE := Lib.hid (HE.out.trans hE)
                  replace hb := hb.ext hE
                  replace h1 := h1.ext hE
                  clear hE
                  (repeat (first | (refine seq_skip (by rfl) ?_; intro K hK; simp only [Act.put, List.setIfInBounds_toArray, List.set_cons_zero, List.set_cons_succ]; refine hK _ ?_; clear hK K) | (refine seq_skipc (by rfl) ?_; intro K hK; simp only [Act.put, List.setIfInBounds_toArray, List.set_cons_zero, List.set_cons_succ]; refine hK _ ?_; clear hK K) | (refine seq_read (by rfl) (by rfl) ?_; intro K hK; go_big_quiet_op; first | go_big_quiet_on | (refine ⟨_, fun _ _ => rfl, ?_⟩; go_big_quiet_on))))
                  refine seq_done ?_
                  go_wp2
                  go_roundw
                  case rel => exact ⟨b + 1, by omega, by go_num, hb, h1, HE.out⟩
                  case measure => simp [intOf]; omega
                · have h9 := hla rfl rfl
                  first
                    | (exact absurd h9 (by decide))
                    | (clear h9
                       go_wp2_with fail
                       refine wp_region_seq [(0, false), (1, false), (2, true), (3, true), (4, false), (5, false), (6, false), (8, false), (7, true), (9, true), (10, false), (11, false), (12, false), (13, false), (14, true), (15, false), (16, false)] Ext (by kernel_rfl) (by kernel_rfl) Ext.refl (fun _ _ _ => Ext.trans) ?_; simp only [List.map, nth_z, nth_s]
                       refine seq_load rfl rfl (fun x hx => Blk.ext (hb) hx) rfl Try.underlying23 (by kernel_rfl) (by rfl) ?_; intro K hK; simp only [Act.put, List.setIfInBounds_toArray, List.set_cons_zero, List.set_cons_succ]; refine hK _ ?_; clear hK K
                       (repeat (first | (refine seq_skip (by rfl) ?_; intro K hK; simp only [Act.put, List.setIfInBounds_toArray, List.set_cons_zero, List.set_cons_succ]; refine hK _ ?_; clear hK K) | (refine seq_skipc (by rfl) ?_; intro K hK; simp only [Act.put, List.setIfInBounds_toArray, List.set_cons_zero, List.set_cons_succ]; refine hK _ ?_; clear hK K) | (refine seq_read (by rfl) (by rfl) ?_; intro K hK; go_big_quiet_op; first | go_big_quiet_on | (refine ⟨_, fun _ _ => rfl, ?_⟩; go_big_quiet_on))))
                       refine seq_call (hnum _) rfl Try.func16 (by kernel_rfl) (by kernel_rfl) (by rfl) (by rfl) ?_; intro K hK; rintro e w' ⟨rfl, hE⟩; refine ⟨_, rfl, hE, ?_⟩; simp only [Act.put, List.setIfInBounds_toArray, List.set_cons_zero, List.set_cons_succ]; refine hK _ _ ?_; clear hK K; replace HE := Lib.hid (HE.out.trans hE)
                       replace hb := hb.ext hE
                       replace h1 := h1.ext hE
                       clear hE
                       refine seq_call (hless _) rfl Try.func12 (by kernel_rfl) (by kernel_rfl) (by rfl) (by rfl) ?_; intro K hK; rintro e w' ⟨rfl, hE⟩; refine ⟨_, rfl, hE, ?_⟩; simp only [Act.put, List.setIfInBounds_toArray, List.set_cons_zero, List.set_cons_succ]; refine hK _ _ ?_; clear hK K; replace HE := Lib.hid (HE.out.trans hE)
                       replace hb := hb.ext hE
                       replace h1 := h1.ext hE
                       clear hE
                       (repeat (first | (refine seq_skip (by rfl) ?_; intro K hK; simp only [Act.put, List.setIfInBounds_toArray, List.set_cons_zero, List.set_cons_succ]; refine hK _ ?_; clear hK K) | (refine seq_skipc (by rfl) ?_; intro K hK; simp only [Act.put, List.setIfInBounds_toArray, List.set_cons_zero, List.set_cons_succ]; refine hK _ ?_; clear hK K) | (refine seq_read (by rfl) (by rfl) ?_; intro K hK; go_big_quiet_op; first | go_big_quiet_on | (refine ⟨_, fun _ _ => rfl, ?_⟩; go_big_quiet_on))))
                       refine seq_load rfl rfl (fun x hx => Blk.ext (h1) hx) rfl Try.underlying25 (by kernel_rfl) (by rfl) ?_; intro K hK; simp only [Act.put, List.setIfInBounds_toArray, List.set_cons_zero, List.set_cons_succ]; refine hK _ ?_; clear hK K
                       refine seq_call (hnum _) rfl Try.func16 (by kernel_rfl) (by kernel_rfl) (by rfl) (by rfl) ?_; intro K hK; rintro e w' ⟨rfl, hE⟩; refine ⟨_, rfl, hE, ?_⟩; simp only [Act.put, List.setIfInBounds_toArray, List.set_cons_zero, List.set_cons_succ]; refine hK _ _ ?_; clear hK K; replace HE := Lib.hid (HE.out.trans hE)
                       replace hb := hb.ext hE
                       replace h1 := h1.ext hE
                       clear hE
                       refine seq_call (hAq _) rfl Try.func14 (by kernel_rfl) (by kernel_rfl) (by rfl) (by rfl) ?_; intro K hK; rintro e w' ⟨rfl, hE⟩; refine ⟨_, rfl, hE, ?_⟩; simp only [Act.put, List.setIfInBounds_toArray, List.set_cons_zero, List.set_cons_succ]; refine hK _ _ ?_; clear hK K; replace HE := Lib.hid (HE.out.trans hE)
                       replace hb := hb.ext hE
                       replace h1 := h1.ext hE
                       clear hE
                       (repeat (first | (refine seq_skip (by rfl) ?_; intro K hK; simp only [Act.put, List.setIfInBounds_toArray, List.set_cons_zero, List.set_cons_succ]; refine hK _ ?_; clear hK K) | (refine seq_skipc (by rfl) ?_; intro K hK; simp only [Act.put, List.setIfInBounds_toArray, List.set_cons_zero, List.set_cons_succ]; refine hK _ ?_; clear hK K) | (refine seq_read (by rfl) (by rfl) ?_; intro K hK; go_big_quiet_op; first | go_big_quiet_on | (refine ⟨_, fun _ _ => rfl, ?_⟩; go_big_quiet_on))))
                       refine seq_load rfl rfl (fun x hx => Blk.ext (hb) hx) rfl Try.underlying23 (by kernel_rfl) (by rfl) ?_; intro K hK; simp only [Act.put, List.setIfInBounds_toArray, List.set_cons_zero, List.set_cons_succ]; refine hK _ ?_; clear hK K
                       refine seq_load rfl rfl (fun x hx => Blk.ext (h1) hx) rfl Try.underlying25 (by kernel_rfl) (by rfl) ?_; intro K hK; simp only [Act.put, List.setIfInBounds_toArray, List.set_cons_zero, List.set_cons_succ]; refine hK _ ?_; clear hK K
                       refine seq_call (hA1 _) rfl Try.func14 (by kernel_rfl) (by kernel_rfl) (by rfl) (by rfl) ?_; intro K hK; rintro e w' ⟨rfl, hE⟩; refine ⟨_, rfl, hE, ?_⟩; simp only [Act.put, List.setIfInBounds_toArray, List.set_cons_zero, List.set_cons_succ]; refine hK _ _ ?_; clear hK K; replace HE := Lib.hid (HE.out.trans hE)
                       replace hb := hb.ext hE
                       replace h1 := h1.ext hE
                       clear hE
                       (repeat (first | (refine seq_skip (by rfl) ?_; intro K hK; simp only [Act.put, List.setIfInBounds_toArray, List.set_cons_zero, List.set_cons_succ]; refine hK _ ?_; clear hK K) | (refine seq_skipc (by rfl) ?_; intro K hK; simp only [Act.put, List.setIfInBounds_toArray, List.set_cons_zero, List.set_cons_succ]; refine hK _ ?_; clear hK K) | (refine seq_read (by rfl) (by rfl) ?_; intro K hK; go_big_quiet_op; first | go_big_quiet_on | (refine ⟨_, fun _ _ => rfl, ?_⟩; go_big_quiet_on))))
                       refine seq_done ?_
                       go_wp2
                       go_roundw
                       case rel => exact ⟨b + 1, by omega, by go_num, hb, h1, HE.out⟩
                       case measure => simp [intOf]; omega
                       )
              · skip
                go_wp2_with fail
                refine wp_region_seq [(0, false), (1, false), (2, true), (3, true), (4, false), (5, false), (6, false), (8, false), (7, true), (9, true), (10, false), (11, false), (12, false), (13, false), (14, true), (15, false), (16, false)] Ext (by kernel_rfl) (by kernel_rfl) Ext.refl (fun _ _ _ => Ext.trans) ?_; simp only [List.map, nth_z, nth_s]
                refine seq_load rfl rfl (fun x hx => Blk.ext (hb) hx) rfl Try.underlying23 (by kernel_rfl) (by rfl) ?_; intro K hK; simp only [Act.put, List.setIfInBounds_toArray, List.set_cons_zero, List.set_cons_succ]; refine hK _ ?_; clear hK K
                (repeat (first | (refine seq_skip (by rfl) ?_; intro K hK; simp only [Act.put, List.setIfInBounds_toArray, List.set_cons_zero, List.set_cons_succ]; refine hK _ ?_; clear hK K) | (refine seq_skipc (by rfl) ?_; intro K hK; simp only [Act.put, List.setIfInBounds_toArray, List.set_cons_zero, List.set_cons_succ]; refine hK _ ?_; clear hK K) | (refine seq_read (by rfl) (by rfl) ?_; intro K hK; go_big_quiet_op; first | go_big_quiet_on | (refine ⟨_, fun _ _ => rfl, ?_⟩; go_big_quiet_on))))
                refine seq_call (hnum _) rfl Try.func16 (by kernel_rfl) (by kernel_rfl) (by rfl) (by rfl) ?_; intro K hK; rintro e w' ⟨rfl, hE⟩; refine ⟨_, rfl, hE, ?_⟩; simp only [Act.put, List.setIfInBounds_toArray, List.set_cons_zero, List.set_cons_succ]; refine hK _ _ ?_; clear hK K; replace HE := Lib.hid (HE.out.trans hE)
                replace hb := hb.ext hE
                replace h1 := h1.ext hE
                clear hE
                refine seq_call (hless _) rfl Try.func12 (by kernel_rfl) (by kernel_rfl) (by rfl) (by rfl) ?_; intro K hK; rintro e w' ⟨rfl, hE⟩; refine ⟨_, rfl, hE, ?_⟩; simp only [Act.put, List.setIfInBounds_toArray, List.set_cons_zero, List.set_cons_succ]; refine hK _ _ ?_; clear hK K; replace HE := Lib.hid (HE.out.trans hE)
                replace hb := hb.ext hE
                replace h1 := h1.ext hE
                clear hE
                (repeat (first | (refine seq_skip (by rfl) ?_; intro K hK; simp only [Act.put, List.setIfInBounds_toArray, List.set_cons_zero, List.set_cons_succ]; refine hK _ ?_; clear hK K) | (refine seq_skipc (by rfl) ?_; intro K hK; simp only [Act.put, List.setIfInBounds_toArray, List.set_cons_zero, List.set_cons_succ]; refine hK _ ?_; clear hK K) | (refine seq_read (by rfl) (by rfl) ?_; intro K hK; go_big_quiet_op; first | go_big_quiet_on | (refine ⟨_, fun _ _ => rfl, ?_⟩; go_big_quiet_on))))
                refine seq_done ?_
                go_wp2
                go_roundw
                case rel => exact ⟨b + 1, by omega, by go_num, hb, h1, HE.out⟩
                case measure => simp [intOf]; omega
            · obtain rfl : b = 16 := by omega
              go_wp2
              go_roundw
              case rel => exact ⟨n + 1, by omega, by go_num, hb, HE⟩
              case measure => simp [intOf]; omega
      · replace hA1 := hA1 _ ha1
        replace hA2 := hA2 _ (hmore ha1)
        clear hmore
        cases kb
        · clear hA3 hfet
          go_wp2_with first | (refine wpList_load_blk (by rfl) 23 _ rfl rfl (by assumption) Try.underlying23 rfl (by kernel_rfl) ?_) | (refine wpList_load_blk (by rfl) 25 _ rfl rfl (by assumption) Try.underlying25 rfl (by kernel_rfl) ?_)
          refine (hA1 _).mono ?_
          rintro e w4 ⟨rfl, hE⟩
          replace HE := Lib.hid (HE.out.trans hE)
          replace hb := hb.ext hE
          replace h1 := h1.ext hE
          replace h2 := h2.ext hE
          replace h3 := h3.ext hE
          replace c1 := ext_cell hE c1
          clear hE
          go_wp2_with first | (refine wpList_load_blk (by rfl) 23 _ rfl rfl (by assumption) Try.underlying23 rfl (by kernel_rfl) ?_) | (refine wpList_load_blk (by rfl) 25 _ rfl rfl (by assumption) Try.underlying25 rfl (by kernel_rfl) ?_)
          refine (hA2 _).mono ?_
          rintro e w4 ⟨rfl, hE⟩
          replace HE := Lib.hid (HE.out.trans hE)
          replace hb := hb.ext hE
          replace h1 := h1.ext hE
          replace h2 := h2.ext hE
          replace h3 := h3.ext hE
          replace c1 := ext_cell hE c1
          clear hE
          go_wp2_with first | (refine wpList_load_blk (by rfl) 23 _ rfl rfl (by assumption) Try.underlying23 rfl (by kernel_rfl) ?_) | (refine wpList_load_blk (by rfl) 25 _ rfl rfl (by assumption) Try.underlying25 rfl (by kernel_rfl) ?_)
          clear h2 h3 c1
          go_loopw [8] (fun c wr => ∃ b : Nat, b ≤ 16 ∧ c = .int .u8 b ∧ Blk wr w2.heap.size 23 (pmC p) ∧ Blk wr w3.heap.size 25 #[.int .i64 k, .int .i64 v, .bool s, .bool m] ∧ Ext w wr) (fun c _ => 16 - (intOf c).toNat)
          case atStart => exact ⟨0, by omega, rfl, hb, h1, HE.out⟩
          case round =>
            clear hb h1 HE
            obtain ⟨b, hbn, rfl, hb, h1, HE⟩ := hrel
            by_cases hbl : b < 16
            · obtain ⟨q, hq⟩ : ∃ q, q = nmP b := ⟨_, rfl⟩
              have hnum := number_c b (by omega)
              rw [← hq] at hnum
              have hless := less8_c p q
              have hAq := al8_m q k v s m _ hyis rfl
              have hla := fun h h' => less_al (p := p) (q := q) (w := ⟨k, v, s, m⟩) h h'
              rw [ha1] at hla
              generalize pmLess p q = l at hless hla
              generalize pmAl q ⟨k, v, s, m⟩ = aq at hAq hla
              clear hq
              replace HE := Lib.hid HE.drew
              replace hb := hb.drew
              replace h1 := h1.drew
              cases l
              · cases aq
                · skip
                  go_wp2_with fail
                  refine wp_region_seq [(0, false), (1, false), (2, true), (3, true), (4, false), (5, false), (6, false), (8, false), (7, true), (9, true), (10, false), (11, false), (12, false), (13, false), (14, true), (15, false), (16, false)] Ext (by kernel_rfl) (by kernel_rfl) Ext.refl (fun _ _ _ => Ext.trans) ?_; simp only [List.map, nth_z, nth_s]
                  refine seq_load rfl rfl (fun x hx => Blk.ext (hb) hx) rfl Try.underlying23 (by kernel_rfl) (by rfl) ?_; intro K hK; simp only [Act.put, List.setIfInBounds_toArray, List.set_cons_zero, List.set_cons_succ]; refine hK _ ?_; clear hK K
                  (repeat (first | (refine seq_skip (by rfl) ?_; intro K hK; simp only [Act.put, List.setIfInBounds_toArray, List.set_cons_zero, List.set_cons_succ]; refine hK _ ?_; clear hK K) | (refine seq_skipc (by rfl) ?_; intro K hK; simp only [Act.put, List.setIfInBounds_toArray, List.set_cons_zero, List.set_cons_succ]; refine hK _ ?_; clear hK K) | (refine seq_read (by rfl) (by rfl) ?_; intro K hK; go_big_quiet_op; first | go_big_quiet_on | (refine ⟨_, fun _ _ => rfl, ?_⟩; go_big_quiet_on))))
                  refine seq_call (hnum _) rfl Try.func16 (by kernel_rfl) (by kernel_rfl) (by rfl) (by rfl) ?_; intro K hK; rintro e w' ⟨rfl, hE⟩; refine ⟨_, rfl, hE, ?_⟩; simp only [Act.put, List.setIfInBounds_toArray, List.set_cons_zero, List.set_cons_succ]; refine hK _ _ ?_; clear hK K; replace HE := Lib.hid (HE.out.trans hE)
                  replace hb := hb.ext hE
                  replace h1 := h1.ext hE
                  clear hE
                  refine seq_call (hless _) rfl Try.func12 (by kernel_rfl) (by kernel_rfl) (by rfl) (by rfl) ?_; intro K hK; rintro e w' ⟨rfl, hE⟩; refine ⟨_, rfl, hE, ?_⟩; simp only [Act.put, List.setIfInBounds_toArray, List.set_cons_zero, List.set_cons_succ]; refine hK _ _ ?_; clear hK K; replace HE := Lib.hid (HE.out.trans hE)
                  replace hb := hb.ext hE
                  replace h1 := h1.ext hE
                  clear hE
                  (repeat (first | (refine seq_skip (by rfl) ?_; intro K hK; simp only [Act.put, List.setIfInBounds_toArray, List.set_cons_zero, List.set_cons_succ]; refine hK _ ?_; clear hK K) | (refine seq_skipc (by rfl) ?_; intro K hK; simp only [Act.put, List.setIfInBounds_toArray, List.set_cons_zero, List.set_cons_succ]; refine hK _ ?_; clear hK K) | (refine seq_read (by rfl) (by rfl) ?_; intro K hK; go_big_quiet_op; first | go_big_quiet_on | (refine ⟨_, fun _ _ => rfl, ?_⟩; go_big_quiet_on))))
                  refine seq_load rfl rfl (fun x hx => Blk.ext (h1) hx) rfl Try.underlying25 (by kernel_rfl) (by rfl) ?_; intro K hK; simp only [Act.put, List.setIfInBounds_toArray, List.set_cons_zero, List.set_cons_succ]; refine hK _ ?_; clear hK K
                  refine seq_call (hnum _) rfl Try.func16 (by kernel_rfl) (by kernel_rfl) (by rfl) (by rfl) ?_; intro K hK; rintro e w' ⟨rfl, hE⟩; refine ⟨_, rfl, hE, ?_⟩; simp only [Act.put, List.setIfInBounds_toArray, List.set_cons_zero, List.set_cons_succ]; refine hK _ _ ?_; clear hK K; replace HE := Lib.hid (HE.out.trans hE)
                  replace hb := hb.ext hE
                  replace h1 := h1.ext hE
                  clear hE
                  refine seq_call (hAq _) rfl Try.func14 (by kernel_rfl) (by kernel_rfl) (by rfl) (by rfl) ?_; intro K hK; rintro e w' ⟨rfl, hE⟩; refine ⟨_, rfl, hE, ?_⟩; simp only [Act.put, List.setIfInBounds_toArray, List.set_cons_zero, List.set_cons_succ]; refine hK _ _ ?_; clear hK K; replace HE := Lib.hid (HE.out.trans hE)
                  replace hb := hb.ext hE
                  replace h1 := h1.ext hE
                  clear hE
                  (repeat (first | (refine seq_skip (by rfl) ?_; intro K hK; simp only [Act.put, List.setIfInBounds_toArray, List.set_cons_zero, List.set_cons_succ]; refine hK _ ?_; clear hK K) | (refine seq_skipc (by rfl) ?_; intro K hK; simp only [Act.put, List.setIfInBounds_toArray, List.set_cons_zero, List.set_cons_succ]; refine hK _ ?_; clear hK K) | (refine seq_read (by rfl) (by rfl) ?_; intro K hK; go_big_quiet_op; first | go_big_quiet_on | (refine ⟨_, fun _ _ => rfl, ?_⟩; go_big_quiet_on))))
                  refine seq_done ?_
                  go_wp2
                  go_roundw
                  case rel => exact ⟨b + 1, by omega, by go_num, hb, h1, HE.out⟩
                  case measure => simp [intOf]; omega
                · have h9 := hla rfl rfl
                  first
                    | (exact absurd h9 (by decide))
                    | (clear h9
                       go_wp2_with fail
                       refine wp_region_seq [(0, false), (1, false), (2, true), (3, true), (4, false), (5, false), (6, false), (8, false), (7, true), (9, true), (10, false), (11, false), (12, false), (13, false), (14, true), (15, false), (16, false)] Ext (by kernel_rfl) (by kernel_rfl) Ext.refl (fun _ _ _ => Ext.trans) ?_; simp only [List.map, nth_z, nth_s]
                       refine seq_load rfl rfl (fun x hx => Blk.ext (hb) hx) rfl Try.underlying23 (by kernel_rfl) (by rfl) ?_; intro K hK; simp only [Act.put, List.setIfInBounds_toArray, List.set_cons_zero, List.set_cons_succ]; refine hK _ ?_; clear hK K
                       (repeat (first | (refine seq_skip (by rfl) ?_; intro K hK; simp only [Act.put, List.setIfInBounds_toArray, List.set_cons_zero, List.set_cons_succ]; refine hK _ ?_; clear hK K) | (refine seq_skipc (by rfl) ?_; intro K hK; simp only [Act.put, List.setIfInBounds_toArray, List.set_cons_zero, List.set_cons_succ]; refine hK _ ?_; clear hK K) | (refine seq_read (by rfl) (by rfl) ?_; intro K hK; go_big_quiet_op; first | go_big_quiet_on | (refine ⟨_, fun _ _ => rfl, ?_⟩; go_big_quiet_on))))
                       refine seq_call (hnum _) rfl Try.func16 (by kernel_rfl) (by kernel_rfl) (by rfl) (by rfl) ?_; intro K hK; rintro e w' ⟨rfl, hE⟩; refine ⟨_, rfl, hE, ?_⟩; simp only [Act.put, List.setIfInBounds_toArray, List.set_cons_zero, List.set_cons_succ]; refine hK _ _ ?_; clear hK K; replace HE := Lib.hid (HE.out.trans hE)
                       replace hb := hb.ext hE
                       replace h1 := h1.ext hE
                       clear hE
                       refine seq_call (hless _) rfl Try.func12 (by kernel_rfl) (by kernel_rfl) (by rfl) (by rfl) ?_; intro K hK; rintro e w' ⟨rfl, hE⟩; refine ⟨_, rfl, hE, ?_⟩; simp only [Act.put, List.setIfInBounds_toArray, List.set_cons_zero, List.set_cons_succ]; refine hK _ _ ?_; clear hK K; replace HE := Lib.hid (HE.out.trans hE)
                       replace hb := hb.ext hE
                       replace h1 := h1.ext hE
                       clear hE
                       (repeat (first | (refine seq_skip (by rfl) ?_; intro K hK; simp only [Act.put, List.setIfInBounds_toArray, List.set_cons_zero, List.set_cons_succ]; refine hK _ ?_; clear hK K) | (refine seq_skipc (by rfl) ?_; intro K hK; simp only [Act.put, List.setIfInBounds_toArray, List.set_cons_zero, List.set_cons_succ]; refine hK _ ?_; clear hK K) | (refine seq_read (by rfl) (by rfl) ?_; intro K hK; go_big_quiet_op; first | go_big_quiet_on | (refine ⟨_, fun _ _ => rfl, ?_⟩; go_big_quiet_on))))
                       refine seq_load rfl rfl (fun x hx => Blk.ext (h1) hx) rfl Try.underlying25 (by kernel_rfl) (by rfl) ?_; intro K hK; simp only [Act.put, List.setIfInBounds_toArray, List.set_cons_zero, List.set_cons_succ]; refine hK _ ?_; clear hK K
                       refine seq_call (hnum _) rfl Try.func16 (by kernel_rfl) (by kernel_rfl) (by rfl) (by rfl) ?_; intro K hK; rintro e w' ⟨rfl, hE⟩; refine ⟨_, rfl, hE, ?_⟩; simp only [Act.put, List.setIfInBounds_toArray, List.set_cons_zero, List.set_cons_succ]; refine hK _ _ ?_; clear hK K; replace HE := Lib.hid (HE.out.trans hE)
                       replace hb := hb.ext hE
                       replace h1 := h1.ext hE
                       clear hE
                       refine seq_call (hAq _) rfl Try.func14 (by kernel_rfl) (by kernel_rfl) (by rfl) (by rfl) ?_; intro K hK; rintro e w' ⟨rfl, hE⟩; refine ⟨_, rfl, hE, ?_⟩; simp only [Act.put, List.setIfInBounds_toArray, List.set_cons_zero, List.set_cons_succ]; refine hK _ _ ?_; clear hK K; replace HE := Lib.hid (HE.out.trans hE)
                       replace hb := hb.ext hE
                       replace h1 := h1.ext hE
                       clear hE
                       (repeat (first | (refine seq_skip (by rfl) ?_; intro K hK; simp only [Act.put, List.setIfInBounds_toArray, List.set_cons_zero, List.set_cons_succ]; refine hK _ ?_; clear hK K) | (refine seq_skipc (by rfl) ?_; intro K hK; simp only [Act.put, List.setIfInBounds_toArray, List.set_cons_zero, List.set_cons_succ]; refine hK _ ?_; clear hK K) | (refine seq_read (by rfl) (by rfl) ?_; intro K hK; go_big_quiet_op; first | go_big_quiet_on | (refine ⟨_, fun _ _ => rfl, ?_⟩; go_big_quiet_on))))
                       refine seq_load rfl rfl (fun x hx => Blk.ext (hb) hx) rfl Try.underlying23 (by kernel_rfl) (by rfl) ?_; intro K hK; simp only [Act.put, List.setIfInBounds_toArray, List.set_cons_zero, List.set_cons_succ]; refine hK _ ?_; clear hK K
                       refine seq_load rfl rfl (fun x hx => Blk.ext (h1) hx) rfl Try.underlying25 (by kernel_rfl) (by rfl) ?_; intro K hK; simp only [Act.put, List.setIfInBounds_toArray, List.set_cons_zero, List.set_cons_succ]; refine hK _ ?_; clear hK K
                       refine seq_call (hA1 _) rfl Try.func14 (by kernel_rfl) (by kernel_rfl) (by rfl) (by rfl) ?_; intro K hK; rintro e w' ⟨rfl, hE⟩; refine ⟨_, rfl, hE, ?_⟩; simp only [Act.put, List.setIfInBounds_toArray, List.set_cons_zero, List.set_cons_succ]; refine hK _ _ ?_; clear hK K; replace HE := Lib.hid (HE.out.trans hE)
                       replace hb := hb.ext hE
                       replace h1 := h1.ext hE
                       clear hE
                       (repeat (first | (refine seq_skip (by rfl) ?_; intro K hK; simp only [Act.put, List.setIfInBounds_toArray, List.set_cons_zero, List.set_cons_succ]; refine hK _ ?_; clear hK K) | (refine seq_skipc (by rfl) ?_; intro K hK; simp only [Act.put, List.setIfInBounds_toArray, List.set_cons_zero, List.set_cons_succ]; refine hK _ ?_; clear hK K) | (refine seq_read (by rfl) (by rfl) ?_; intro K hK; go_big_quiet_op; first | go_big_quiet_on | (refine ⟨_, fun _ _ => rfl, ?_⟩; go_big_quiet_on))))
                       refine seq_done ?_
                       go_wp2
                       go_roundw
                       case rel => exact ⟨b + 1, by omega, by go_num, hb, h1, HE.out⟩
                       case measure => simp [intOf]; omega
                       )
              · skip
                go_wp2_with fail
                refine wp_region_seq [(0, false), (1, false), (2, true), (3, true), (4, false), (5, false), (6, false), (8, false), (7, true), (9, true), (10, false), (11, false), (12, false), (13, false), (14, true), (15, false), (16, false)] Ext (by kernel_rfl) (by kernel_rfl) Ext.refl (fun _ _ _ => Ext.trans) ?_; simp only [List.map, nth_z, nth_s]
                refine seq_load rfl rfl (fun x hx => Blk.ext (hb) hx) rfl Try.underlying23 (by kernel_rfl) (by rfl) ?_; intro K hK; simp only [Act.put, List.setIfInBounds_toArray, List.set_cons_zero, List.set_cons_succ]; refine hK _ ?_; clear hK K
                (repeat (first | (refine seq_skip (by rfl) ?_; intro K hK; simp only [Act.put, List.setIfInBounds_toArray, List.set_cons_zero, List.set_cons_succ]; refine hK _ ?_; clear hK K) | (refine seq_skipc (by rfl) ?_; intro K hK; simp only [Act.put, List.setIfInBounds_toArray, List.set_cons_zero, List.set_cons_succ]; refine hK _ ?_; clear hK K) | (refine seq_read (by rfl) (by rfl) ?_; intro K hK; go_big_quiet_op; first | go_big_quiet_on | (refine ⟨_, fun _ _ => rfl, ?_⟩; go_big_quiet_on))))
                refine seq_call (hnum _) rfl Try.func16 (by kernel_rfl) (by kernel_rfl) (by rfl) (by rfl) ?_; intro K hK; rintro e w' ⟨rfl, hE⟩; refine ⟨_, rfl, hE, ?_⟩; simp only [Act.put, List.setIfInBounds_toArray, List.set_cons_zero, List.set_cons_succ]; refine hK _ _ ?_; clear hK K; replace HE := Lib.hid (HE.out.trans hE)
                replace hb := hb.ext hE
                replace h1 := h1.ext hE
                clear hE
                refine seq_call (hless _) rfl Try.func12 (by kernel_rfl) (by kernel_rfl) (by rfl) (by rfl) ?_; intro K hK; rintro e w' ⟨rfl, hE⟩; refine ⟨_, rfl, hE, ?_⟩; simp only [Act.put, List.setIfInBounds_toArray, List.set_cons_zero, List.set_cons_succ]; refine hK _ _ ?_; clear hK K; replace HE := Lib.hid (HE.out.trans hE)
                replace hb := hb.ext hE
                replace h1 := h1.ext hE
                clear hE
                (repeat (first | (refine seq_skip (by rfl) ?_; intro K hK; simp only [Act.put, List.setIfInBounds_toArray, List.set_cons_zero, List.set_cons_succ]; refine hK _ ?_; clear hK K) | (refine seq_skipc (by rfl) ?_; intro K hK; simp only [Act.put, List.setIfInBounds_toArray, List.set_cons_zero, List.set_cons_succ]; refine hK _ ?_; clear hK K) | (refine seq_read (by rfl) (by rfl) ?_; intro K hK; go_big_quiet_op; first | go_big_quiet_on | (refine ⟨_, fun _ _ => rfl, ?_⟩; go_big_quiet_on))))
                refine seq_done ?_
                go_wp2
                go_roundw
                case rel => exact ⟨b + 1, by omega, by go_num, hb, h1, HE.out⟩
                case measure => simp [intOf]; omega
            · obtain rfl : b = 16 := by omega
              go_wp2
              go_roundw
              case rel => exact ⟨n + 1, by omega, by go_num, hb, HE⟩
              case measure => simp [intOf]; omega
        · replace hA3 := hA3 _ (hfet (by simpa using hk) ha1)
          clear hfet
          go_wp2_with first | (refine wpList_load_blk (by rfl) 23 _ rfl rfl (by assumption) Try.underlying23 rfl (by kernel_rfl) ?_) | (refine wpList_load_blk (by rfl) 25 _ rfl rfl (by assumption) Try.underlying25 rfl (by kernel_rfl) ?_)
          refine (hA1 _).mono ?_
          rintro e w4 ⟨rfl, hE⟩
          replace HE := Lib.hid (HE.out.trans hE)
          replace hb := hb.ext hE
          replace h1 := h1.ext hE
          replace h2 := h2.ext hE
          replace h3 := h3.ext hE
          replace c1 := ext_cell hE c1
          clear hE
          go_wp2_with first | (refine wpList_load_blk (by rfl) 23 _ rfl rfl (by assumption) Try.underlying23 rfl (by kernel_rfl) ?_) | (refine wpList_load_blk (by rfl) 25 _ rfl rfl (by assumption) Try.underlying25 rfl (by kernel_rfl) ?_)
          refine (hA2 _).mono ?_
          rintro e w4 ⟨rfl, hE⟩
          replace HE := Lib.hid (HE.out.trans hE)
          replace hb := hb.ext hE
          replace h1 := h1.ext hE
          replace h2 := h2.ext hE
          replace h3 := h3.ext hE
          replace c1 := ext_cell hE c1
          clear hE
          go_wp2_with first | (refine wpList_load_blk (by rfl) 23 _ rfl rfl (by assumption) Try.underlying23 rfl (by kernel_rfl) ?_) | (refine wpList_load_blk (by rfl) 25 _ rfl rfl (by assumption) Try.underlying25 rfl (by kernel_rfl) ?_)
          refine (hA1 _).mono ?_
          rintro e w4 ⟨rfl, hE⟩
          replace HE := Lib.hid (HE.out.trans hE)
          replace hb := hb.ext hE
          replace h1 := h1.ext hE
          replace h2 := h2.ext hE
          replace h3 := h3.ext hE
          replace c1 := ext_cell hE c1
          clear hE
          go_wp2_with first | (refine wpList_load_blk (by rfl) 23 _ rfl rfl (by assumption) Try.underlying23 rfl (by kernel_rfl) ?_) | (refine wpList_load_blk (by rfl) 25 _ rfl rfl (by assumption) Try.underlying25 rfl (by kernel_rfl) ?_)
          refine (hA3 _).mono ?_
          rintro e w4 ⟨rfl, hE⟩
          replace HE := Lib.hid (HE.out.trans hE)
          replace hb := hb.ext hE
          replace h1 := h1.ext hE
          replace h2 := h2.ext hE
          replace h3 := h3.ext hE
          replace c1 := ext_cell hE c1
          clear hE
          go_wp2_with first | (refine wpList_load_blk (by rfl) 23 _ rfl rfl (by assumption) Try.underlying23 rfl (by kernel_rfl) ?_) | (refine wpList_load_blk (by rfl) 25 _ rfl rfl (by assumption) Try.underlying25 rfl (by kernel_rfl) ?_)
          clear h2 h3 c1
          go_loopw [8] (fun c wr => ∃ b : Nat, b ≤ 16 ∧ c = .int .u8 b ∧ Blk wr w2.heap.size 23 (pmC p) ∧ Blk wr w3.heap.size 25 #[.int .i64 k, .int .i64 v, .bool s, .bool m] ∧ Ext w wr) (fun c _ => 16 - (intOf c).toNat)
          case atStart => exact ⟨0, by omega, rfl, hb, h1, HE.out⟩
          case round =>
            clear hb h1 HE
            obtain ⟨b, hbn, rfl, hb, h1, HE⟩ := hrel
            by_cases hbl : b < 16
            · obtain ⟨q, hq⟩ : ∃ q, q = nmP b := ⟨_, rfl⟩
              have hnum := number_c b (by omega)
              rw [← hq] at hnum
              have hless := less8_c p q
              have hAq := al8_m q k v s m _ hyis rfl
              have hla := fun h h' => less_al (p := p) (q := q) (w := ⟨k, v, s, m⟩) h h'
              rw [ha1] at hla
              generalize pmLess p q = l at hless hla
              generalize pmAl q ⟨k, v, s, m⟩ = aq at hAq hla
              clear hq
              replace HE := Lib.hid HE.drew
              replace hb := hb.drew
              replace h1 := h1.drew
              cases l
              · cases aq
                · skip
                  go_wp2_with fail
                  refine wp_region_seq [(0, false), (1, false), (2, true), (3, true), (4, false), (5, false), (6, false), (8, false), (7, true), (9, true), (10, false), (11, false), (12, false), (13, false), (14, true), (15, false), (16, false)] Ext (by kernel_rfl) (by kernel_rfl) Ext.refl (fun _ _ _ => Ext.trans) ?_; simp only [List.map, nth_z, nth_s]
                  refine seq_load rfl rfl (fun x hx => Blk.ext (hb) hx) rfl Try.underlying23 (by kernel_rfl) (by rfl) ?_; intro K hK; simp only [Act.put, List.setIfInBounds_toArray, List.set_cons_zero, List.set_cons_succ]; refine hK _ ?_; clear hK K
                  (repeat (first | (refine seq_skip (by rfl) ?_; intro K hK; simp only [Act.put, List.setIfInBounds_toArray, List.set_cons_zero, List.set_cons_succ]; refine hK _ ?_; clear hK K) | (refine seq_skipc (by rfl) ?_; intro K hK; simp only [Act.put, List.setIfInBounds_toArray, List.set_cons_zero, List.set_cons_succ]; refine hK _ ?_; clear hK K) | (refine seq_read (by rfl) (by rfl) ?_; intro K hK; go_big_quiet_op; first | go_big_quiet_on | (refine ⟨_, fun _ _ => rfl, ?_⟩; go_big_quiet_on))))
                  refine seq_call (hnum _) rfl Try.func16 (by kernel_rfl) (by kernel_rfl) (by rfl) (by rfl) ?_; intro K hK; rintro e w' ⟨rfl, hE⟩; refine ⟨_, rfl, hE, ?_⟩; simp only [Act.put, List.setIfInBounds_toArray, List.set_cons_zero, List.set_cons_succ]; refine hK _ _ ?_; clear hK K; replace HE := Lib.hid (HE.out.trans hE)
                  replace hb := hb.ext hE
                  replace h1 := h1.ext hE
                  clear hE
                  refine seq_call (hless _) rfl Try.func12 (by kernel_rfl) (by kernel_rfl) (by rfl) (by rfl) ?_; intro K hK; rintro e w' ⟨rfl, hE⟩; refine ⟨_, rfl, hE, ?_⟩; simp only [Act.put, List.setIfInBounds_toArray, List.set_cons_zero, List.set_cons_succ]; refine hK _ _ ?_; clear hK K; replace HE := Lib.hid (HE.out.trans hE)
                  replace hb := hb.ext hE
                  replace h1 := h1.ext hE
                  clear hE
                  (repeat (first | (refine seq_skip (by rfl) ?_; intro K hK; simp only [Act.put, List.setIfInBounds_toArray, List.set_cons_zero, List.set_cons_succ]; refine hK _ ?_; clear hK K) | (refine seq_skipc (by rfl) ?_; intro K hK; simp only [Act.put, List.setIfInBounds_toArray, List.set_cons_zero, List.set_cons_succ]; refine hK _ ?_; clear hK K) | (refine seq_read (by rfl) (by rfl) ?_; intro K hK; go_big_quiet_op; first | go_big_quiet_on | (refine ⟨_, fun _ _ => rfl, ?_⟩; go_big_quiet_on))))
                  refine seq_load rfl rfl (fun x hx => Blk.ext (h1) hx) rfl Try.underlying25 (by kernel_rfl) (by rfl) ?_; intro K hK; simp only [Act.put, List.setIfInBounds_toArray, List.set_cons_zero, List.set_cons_succ]; refine hK _ ?_; clear hK K
                  refine seq_call (hnum _) rfl Try.func16 (by kernel_rfl) (by kernel_rfl) (by rfl) (by rfl) ?_; intro K hK; rintro e w' ⟨rfl, hE⟩; refine ⟨_, rfl, hE, ?_⟩; simp only [Act.put, List.setIfInBounds_toArray, List.set_cons_zero, List.set_cons_succ]; refine hK _ _ ?_; clear hK K; replace HE := Lib.hid (HE.out.trans hE)
                  replace hb := hb.ext hE
                  replace h1 := h1.ext hE
                  clear hE
                  refine seq_call (hAq _) rfl Try.func14 (by kernel_rfl) (by kernel_rfl) (by rfl) (by rfl) ?_; intro K hK; rintro e w' ⟨rfl, hE⟩; refine ⟨_, rfl, hE, ?_⟩; simp only [Act.put, List.setIfInBounds_toArray, List.set_cons_zero, List.set_cons_succ]; refine hK _ _ ?_; clear hK K; replace HE := Lib.hid (HE.out.trans hE)
                  replace hb := hb.ext hE
                  replace h1 := h1.ext hE
                  clear hE
                  (repeat (first | (refine seq_skip (by rfl) ?_; intro K hK; simp only [Act.put, List.setIfInBounds_toArray, List.set_cons_zero, List.set_cons_succ]; refine hK _ ?_; clear hK K) | (refine seq_skipc (by rfl) ?_; intro K hK; simp only [Act.put, List.setIfInBounds_toArray, List.set_cons_zero, List.set_cons_succ]; refine hK _ ?_; clear hK K) | (refine seq_read (by rfl) (by rfl) ?_; intro K hK; go_big_quiet_op; first | go_big_quiet_on | (refine ⟨_, fun _ _ => rfl, ?_⟩; go_big_quiet_on))))
                  refine seq_done ?_
                  go_wp2
                  go_roundw
                  case rel => exact ⟨b + 1, by omega, by go_num, hb, h1, HE.out⟩
                  case measure => simp [intOf]; omega
                · have h9 := hla rfl rfl
                  first
                    | (exact absurd h9 (by decide))
                    | (clear h9
                       go_wp2_with fail
                       refine wp_region_seq [(0, false), (1, false), (2, true), (3, true), (4, false), (5, false), (6, false), (8, false), (7, true), (9, true), (10, false), (11, false), (12, false), (13, false), (14, true), (15, false), (16, false)] Ext (by kernel_rfl) (by kernel_rfl) Ext.refl (fun _ _ _ => Ext.trans) ?_; simp only [List.map, nth_z, nth_s]
                       refine seq_load rfl rfl (fun x hx => Blk.ext (hb) hx) rfl Try.underlying23 (by kernel_rfl) (by rfl) ?_; intro K hK; simp only [Act.put, List.setIfInBounds_toArray, List.set_cons_zero, List.set_cons_succ]; refine hK _ ?_; clear hK K
                       (repeat (first | (refine seq_skip (by rfl) ?_; intro K hK; simp only [Act.put, List.setIfInBounds_toArray, List.set_cons_zero, List.set_cons_succ]; refine hK _ ?_; clear hK K) | (refine seq_skipc (by rfl) ?_; intro K hK; simp only [Act.put, List.setIfInBounds_toArray, List.set_cons_zero, List.set_cons_succ]; refine hK _ ?_; clear hK K) | (refine seq_read (by rfl) (by rfl) ?_; intro K hK; go_big_quiet_op; first | go_big_quiet_on | (refine ⟨_, fun _ _ => rfl, ?_⟩; go_big_quiet_on))))
                       refine seq_call (hnum _) rfl Try.func16 (by kernel_rfl) (by kernel_rfl) (by rfl) (by rfl) ?_; intro K hK; rintro e w' ⟨rfl, hE⟩; refine ⟨_, rfl, hE, ?_⟩; simp only [Act.put, List.setIfInBounds_toArray, List.set_cons_zero, List.set_cons_succ]; refine hK _ _ ?_; clear hK K; replace HE := Lib.hid (HE.out.trans hE)
                       replace hb := hb.ext hE
                       replace h1 := h1.ext hE
                       clear hE
                       refine seq_call (hless _) rfl Try.func12 (by kernel_rfl) (by kernel_rfl) (by rfl) (by rfl) ?_; intro K hK; rintro e w' ⟨rfl, hE⟩; refine ⟨_, rfl, hE, ?_⟩; simp only [Act.put, List.setIfInBounds_toArray, List.set_cons_zero, List.set_cons_succ]; refine hK _ _ ?_; clear hK K; replace HE := Lib.hid (HE.out.trans hE)
                       replace hb := hb.ext hE
                       replace h1 := h1.ext hE
                       clear hE
                       (repeat (first | (refine seq_skip (by rfl) ?_; intro K hK; simp only [Act.put, List.setIfInBounds_toArray, List.set_cons_zero, List.set_cons_succ]; refine hK _ ?_; clear hK K) | (refine seq_skipc (by rfl) ?_; intro K hK; simp only [Act.put, List.setIfInBounds_toArray, List.set_cons_zero, List.set_cons_succ]; refine hK _ ?_; clear hK K) | (refine seq_read (by rfl) (by rfl) ?_; intro K hK; go_big_quiet_op; first | go_big_quiet_on | (refine ⟨_, fun _ _ => rfl, ?_⟩; go_big_quiet_on))))
                       refine seq_load rfl rfl (fun x hx => Blk.ext (h1) hx) rfl Try.underlying25 (by kernel_rfl) (by rfl) ?_; intro K hK; simp only [Act.put, List.setIfInBounds_toArray, List.set_cons_zero, List.set_cons_succ]; refine hK _ ?_; clear hK K
                       refine seq_call (hnum _) rfl Try.func16 (by kernel_rfl) (by kernel_rfl) (by rfl) (by rfl) ?_; intro K hK; rintro e w' ⟨rfl, hE⟩; refine ⟨_, rfl, hE, ?_⟩; simp only [Act.put, List.setIfInBounds_toArray, List.set_cons_zero, List.set_cons_succ]; refine hK _ _ ?_; clear hK K; replace HE := Lib.hid (HE.out.trans hE)
                       replace hb := hb.ext hE
                       replace h1 := h1.ext hE
                       clear hE
                       refine seq_call (hAq _) rfl Try.func14 (by kernel_rfl) (by kernel_rfl) (by rfl) (by rfl) ?_; intro K hK; rintro e w' ⟨rfl, hE⟩; refine ⟨_, rfl, hE, ?_⟩; simp only [Act.put, List.setIfInBounds_toArray, List.set_cons_zero, List.set_cons_succ]; refine hK _ _ ?_; clear hK K; replace HE := Lib.hid (HE.out.trans hE)
                       replace hb := hb.ext hE
                       replace h1 := h1.ext hE
                       clear hE
                       (repeat (first | (refine seq_skip (by rfl) ?_; intro K hK; simp only [Act.put, List.setIfInBounds_toArray, List.set_cons_zero, List.set_cons_succ]; refine hK _ ?_; clear hK K) | (refine seq_skipc (by rfl) ?_; intro K hK; simp only [Act.put, List.setIfInBounds_toArray, List.set_cons_zero, List.set_cons_succ]; refine hK _ ?_; clear hK K) | (refine seq_read (by rfl) (by rfl) ?_; intro K hK; go_big_quiet_op; first | go_big_quiet_on | (refine ⟨_, fun _ _ => rfl, ?_⟩; go_big_quiet_on))))
                       refine seq_load rfl rfl (fun x hx => Blk.ext (hb) hx) rfl Try.underlying23 (by kernel_rfl) (by rfl) ?_; intro K hK; simp only [Act.put, List.setIfInBounds_toArray, List.set_cons_zero, List.set_cons_succ]; refine hK _ ?_; clear hK K
                       refine seq_load rfl rfl (fun x hx => Blk.ext (h1) hx) rfl Try.underlying25 (by kernel_rfl) (by rfl) ?_; intro K hK; simp only [Act.put, List.setIfInBounds_toArray, List.set_cons_zero, List.set_cons_succ]; refine hK _ ?_; clear hK K
                       refine seq_call (hA1 _) rfl Try.func14 (by kernel_rfl) (by kernel_rfl) (by rfl) (by rfl) ?_; intro K hK; rintro e w' ⟨rfl, hE⟩; refine ⟨_, rfl, hE, ?_⟩; simp only [Act.put, List.setIfInBounds_toArray, List.set_cons_zero, List.set_cons_succ]; refine hK _ _ ?_; clear hK K; replace HE := Lib.hid (HE.out.trans hE)
                       replace hb := hb.ext hE
                       replace h1 := h1.ext hE
                       clear hE
                       (repeat (first | (refine seq_skip (by rfl) ?_; intro K hK; simp only [Act.put, List.setIfInBounds_toArray, List.set_cons_zero, List.set_cons_succ]; refine hK _ ?_; clear hK K) | (refine seq_skipc (by rfl) ?_; intro K hK; simp only [Act.put, List.setIfInBounds_toArray, List.set_cons_zero, List.set_cons_succ]; refine hK _ ?_; clear hK K) | (refine seq_read (by rfl) (by rfl) ?_; intro K hK; go_big_quiet_op; first | go_big_quiet_on | (refine ⟨_, fun _ _ => rfl, ?_⟩; go_big_quiet_on))))
                       refine seq_done ?_
                       go_wp2
                       go_roundw
                       case rel => exact ⟨b + 1, by omega, by go_num, hb, h1, HE.out⟩
                       case measure => simp [intOf]; omega
                       )
              · skip
                go_wp2_with fail
                refine wp_region_seq [(0, false), (1, false), (2, true), (3, true), (4, false), (5, false), (6, false), (8, false), (7, true), (9, true), (10, false), (11, false), (12, false), (13, false), (14, true), (15, false), (16, false)] Ext (by kernel_rfl) (by kernel_rfl) Ext.refl (fun _ _ _ => Ext.trans) ?_; simp only [List.map, nth_z, nth_s]
                refine seq_load rfl rfl (fun x hx => Blk.ext (hb) hx) rfl Try.underlying23 (by kernel_rfl) (by rfl) ?_; intro K hK; simp only [Act.put, List.setIfInBounds_toArray, List.set_cons_zero, List.set_cons_succ]; refine hK _ ?_; clear hK K
                (repeat (first | (refine seq_skip (by rfl) ?_; intro K hK; simp only [Act.put, List.setIfInBounds_toArray, List.set_cons_zero, List.set_cons_succ]; refine hK _ ?_; clear hK K) | (refine seq_skipc (by rfl) ?_; intro K hK; simp only [Act.put, List.setIfInBounds_toArray, List.set_cons_zero, List.set_cons_succ]; refine hK _ ?_; clear hK K) | (refine seq_read (by rfl) (by rfl) ?_; intro K hK; go_big_quiet_op; first | go_big_quiet_on | (refine ⟨_, fun _ _ => rfl, ?_⟩; go_big_quiet_on))))
                refine seq_call (hnum _) rfl Try.func16 (by kernel_rfl) (by kernel_rfl) (by rfl) (by rfl) ?_; intro K hK; rintro e w' ⟨rfl, hE⟩; refine ⟨_, rfl, hE, ?_⟩; simp only [Act.put, List.setIfInBounds_toArray, List.set_cons_zero, List.set_cons_succ]; refine hK _ _ ?_; clear hK K; replace HE := Lib.hid (HE.out.trans hE)
                replace hb := hb.ext hE
                replace h1 := h1.ext hE
                clear hE
                refine seq_call (hless _) rfl Try.func12 (by kernel_rfl) (by kernel_rfl) (by rfl) (by rfl) ?_; intro K hK; rintro e w' ⟨rfl, hE⟩; refine ⟨_, rfl, hE, ?_⟩; simp only [Act.put, List.setIfInBounds_toArray, List.set_cons_zero, List.set_cons_succ]; refine hK _ _ ?_; clear hK K; replace HE := Lib.hid (HE.out.trans hE)
                replace hb := hb.ext hE
                replace h1 := h1.ext hE
                clear hE
                (repeat (first | (refine seq_skip (by rfl) ?_; intro K hK; simp only [Act.put, List.setIfInBounds_toArray, List.set_cons_zero, List.set_cons_succ]; refine hK _ ?_; clear hK K) | (refine seq_skipc (by rfl) ?_; intro K hK; simp only [Act.put, List.setIfInBounds_toArray, List.set_cons_zero, List.set_cons_succ]; refine hK _ ?_; clear hK K) | (refine seq_read (by rfl) (by rfl) ?_; intro K hK; go_big_quiet_op; first | go_big_quiet_on | (refine ⟨_, fun _ _ => rfl, ?_⟩; go_big_quiet_on))))
                refine seq_done ?_
                go_wp2
                go_roundw
                case rel => exact ⟨b + 1, by omega, by go_num, hb, h1, HE.out⟩
                case measure => simp [intOf]; omega
            · obtain rfl : b = 16 := by omega
              go_wp2
              go_roundw
              case rel => exact ⟨n + 1, by omega, by go_num, hb, HE⟩
              case measure => simp [intOf]; omega
    · obtain rfl : n = 24 := by omega
      go_wp2
      go_ret
      exact ⟨rfl, HE⟩
end Go.Proofs.Ythmfgiodidaofaa
