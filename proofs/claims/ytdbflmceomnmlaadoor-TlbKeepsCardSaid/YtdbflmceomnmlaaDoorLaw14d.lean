/- TlbKeeps, over the package's contracts (TlbC). -/
import Derived.Test.YtdbflmceomnmlaaDoorLaw14b
namespace Go.Proofs.YtdbflmceomnmlaaDoor
open Go.ChangeShapes Go.WideShapes Go.ChangeAt Go.RowKit
set_option linter.unusedVariables false
set_option linter.unusedSimpArgs false

theorem own_slK {w : World} {b : Nat} {e : TypeId} {size : Nat} {v : Value} {n : Nat} {xs : List Value} (h : w.ownsRow b e size v n xs) : ∃ A c, v = .slice A n c := by
  rcases h.2 with ⟨rfl, rfl⟩ | ⟨g, cap, cur, rfl, _⟩
  · exact ⟨_, _, rfl⟩
  · exact ⟨_, _, rfl⟩
set_option maxRecDepth 100000 in
set_option maxHeartbeats 4000000 in
theorem TlbKeeps_w (C : TlbC) (A : Option Addr) (L : List St) (c : Nat) (e : En) (v : Int) (q : Nat) (he : e.ok) (q1 : q < 256) (w : World) (hr : RowV KS w A L c) (hT : Lays w) :
    Calls Tryd.prog 7 #[.agg #[.slice A L.length c], .agg (enC e), .int .i64 v, .int .u8 (q : Int)] w fun r w' => r = .returned (.bool true) ∧ Ext w w' := by
  have h1 : Blk ((w.alloc (.cells #[.slice A L.length c] 24)).alloc (.cells (enC e) 29)) w.heap.size 24 #[.slice A L.length c] := (Blk.new w _ _).alloc _
  have h2 : Blk ((w.alloc (.cells #[.slice A L.length c] 24)).alloc (.cells (enC e) 29)) (w.heap.size + 1) 29 (enC e) := blk_at (by simp)
  have HE := Lib.hid (((Ext.refl w).alloc (.cells #[.slice A L.length c] 24)).alloc (.cells (enC e) 29))
  have hrow : ∀ W : World, Ext w W → RowV KS W A L c := fun W h => hr.ext h
  have hLm : L.length ≤ 9223372036854775807 := Nat.le_trans hr.2.2.1 hr.2.2.2
  have crr := fun w h => rright14_c A L c hLm w h
  clear hr
  cases hrt : rightT L
  · rw [hrt] at crr
    go_enter Tryd.func7, Tryd.ntmps7
    go_wp2_with (fail); refine (C.awake _ (hT.ext HE.out)).mono ?_; rintro e w' ⟨rfl, hE⟩; (try replace hm := hm.ext hE); (try replace h1 := h1.ext hE); (try replace h2 := h2.ext hE); (try replace h9 := h9.ext hE); (try replace HE := Lib.hid (HE.out.trans hE))
    clear hE
    go_wp2_with ((refine wpList_load_blk (by rfl) 24 _ rfl rfl (by first | exact h1 | exact h2 | exact h9) Tryd.underlying24 rfl (by kernel_rfl) ?_)); refine (crr _ (hrow _ HE.out)).mono ?_; rintro e w' ⟨rfl, hE⟩; (try replace hm := hm.ext hE); (try replace h1 := h1.ext hE); (try replace h2 := h2.ext hE); (try replace h9 := h9.ext hE); (try replace HE := Lib.hid (HE.out.trans hE))
    clear hE
    go_wp2_with ((first | (refine wpList_load_blk (by rfl) 29 _ rfl rfl (by first | exact h1 | exact h2 | exact h9) Tryd.underlying29 rfl (by kernel_rfl) ?_) | (refine wpList_load_blk (by rfl) 24 _ rfl rfl (by first | exact h1 | exact h2 | exact h9) Tryd.underlying24 rfl (by kernel_rfl) ?_))); refine (C.awake _ (hT.ext HE.out)).mono ?_; rintro e w' ⟨rfl, hE⟩; (try replace hm := hm.ext hE); (try replace h1 := h1.ext hE); (try replace h2 := h2.ext hE); (try replace h9 := h9.ext hE); (try replace HE := Lib.hid (HE.out.trans hE))
    clear hE
    go_wp2
    go_ret
    exact ⟨rfl, HE.out⟩
  rw [hrt] at crr
  have rme := fun w => rmay12_c e w
  cases hm : mayE e
  · rw [hm] at rme
    go_enter Tryd.func7, Tryd.ntmps7
    go_wp2_with (fail); refine (C.awake _ (hT.ext HE.out)).mono ?_; rintro e w' ⟨rfl, hE⟩; (try replace hm := hm.ext hE); (try replace h1 := h1.ext hE); (try replace h2 := h2.ext hE); (try replace h9 := h9.ext hE); (try replace HE := Lib.hid (HE.out.trans hE))
    clear hE
    go_wp2_with ((refine wpList_load_blk (by rfl) 24 _ rfl rfl (by first | exact h1 | exact h2 | exact h9) Tryd.underlying24 rfl (by kernel_rfl) ?_)); refine (crr _ (hrow _ HE.out)).mono ?_; rintro e w' ⟨rfl, hE⟩; (try replace hm := hm.ext hE); (try replace h1 := h1.ext hE); (try replace h2 := h2.ext hE); (try replace h9 := h9.ext hE); (try replace HE := Lib.hid (HE.out.trans hE))
    clear hE
    go_wp2_with ((refine wpList_load_blk (by rfl) 29 _ rfl rfl (by first | exact h1 | exact h2 | exact h9) Tryd.underlying29 rfl (by kernel_rfl) ?_)); refine (rme _).mono ?_; rintro e w' ⟨rfl, hE⟩; (try replace hm := hm.ext hE); (try replace h1 := h1.ext hE); (try replace h2 := h2.ext hE); (try replace h9 := h9.ext hE); (try replace HE := Lib.hid (HE.out.trans hE))
    clear hE
    go_wp2_with ((first | (refine wpList_load_blk (by rfl) 29 _ rfl rfl (by first | exact h1 | exact h2 | exact h9) Tryd.underlying29 rfl (by kernel_rfl) ?_) | (refine wpList_load_blk (by rfl) 24 _ rfl rfl (by first | exact h1 | exact h2 | exact h9) Tryd.underlying24 rfl (by kernel_rfl) ?_))); refine (C.awake _ (hT.ext HE.out)).mono ?_; rintro e w' ⟨rfl, hE⟩; (try replace hm := hm.ext hE); (try replace h1 := h1.ext hE); (try replace h2 := h2.ext hE); (try replace h9 := h9.ext hE); (try replace HE := Lib.hid (HE.out.trans hE))
    clear hE
    go_wp2
    go_ret
    exact ⟨rfl, HE.out⟩
  rw [hm] at rme
  cases hv : e.v
  · skip
    go_enter Tryd.func7, Tryd.ntmps7
    go_wp2_with (fail); refine (C.awake _ (hT.ext HE.out)).mono ?_; rintro e w' ⟨rfl, hE⟩; (try replace hm := hm.ext hE); (try replace h1 := h1.ext hE); (try replace h2 := h2.ext hE); (try replace h9 := h9.ext hE); (try replace HE := Lib.hid (HE.out.trans hE))
    clear hE
    go_wp2_with ((refine wpList_load_blk (by rfl) 24 _ rfl rfl (by first | exact h1 | exact h2 | exact h9) Tryd.underlying24 rfl (by kernel_rfl) ?_)); refine (crr _ (hrow _ HE.out)).mono ?_; rintro e w' ⟨rfl, hE⟩; (try replace hm := hm.ext hE); (try replace h1 := h1.ext hE); (try replace h2 := h2.ext hE); (try replace h9 := h9.ext hE); (try replace HE := Lib.hid (HE.out.trans hE))
    clear hE
    go_wp2_with ((refine wpList_load_blk (by rfl) 29 _ rfl rfl (by first | exact h1 | exact h2 | exact h9) Tryd.underlying29 rfl (by kernel_rfl) ?_)); refine (rme _).mono ?_; rintro e w' ⟨rfl, hE⟩; (try replace hm := hm.ext hE); (try replace h1 := h1.ext hE); (try replace h2 := h2.ext hE); (try replace h9 := h9.ext hE); (try replace HE := Lib.hid (HE.out.trans hE))
    clear hE
    have x0 := h2.en_v
    rw [hv] at x0
    go_wp2_with ((first | (refine wpList_load_blk (by rfl) 29 _ rfl rfl (by first | exact h1 | exact h2 | exact h9) Tryd.underlying29 rfl (by kernel_rfl) ?_) | (refine wpList_load_blk (by rfl) 24 _ rfl rfl (by first | exact h1 | exact h2 | exact h9) Tryd.underlying24 rfl (by kernel_rfl) ?_))); refine (C.awake _ (hT.ext HE.out)).mono ?_; rintro e w' ⟨rfl, hE⟩; (try replace hm := hm.ext hE); (try replace h1 := h1.ext hE); (try replace h2 := h2.ext hE); (try replace h9 := h9.ext hE); (try replace HE := Lib.hid (HE.out.trans hE))
    clear hE
    go_wp2
    go_ret
    exact ⟨rfl, HE.out⟩
  have x0 := h2.en_v
  rw [hv] at x0
  have hl16 := rt_len hrt
  have cpt := fun A c w h k => C.put A L c e v w hrt hm hv h k
  have cdr : ∀ (A : Option Addr) (c : Nat) w, RowV KS w A L c → Lays w → Calls Tryd.prog 18 #[.agg #[.slice A L.length c], .int .i64 (q : Int), .int .i64 1] w fun r w' => (∃ x, r = .returned x) ∧ Ext w w' := fun A c w h k => by
    by_cases hq : q < L.length
    · exact (C.drop A L c q 1 w hrt hq (by decide) h k).mono fun r w' ⟨A', c', hr, _, hE⟩ => ⟨⟨_, hr⟩, hE⟩
    · exact (C.dropNo A L.length c q 1 w (by omega) k).mono fun r w' ⟨hr, hE⟩ => ⟨⟨_, hr⟩, hE⟩
  have cus := fun A c i w hi h k => C.use A L c i 2 w hrt hi (by decide) h k
  have cao := fun A c w h k => C.allO A L c w hrt h k
  have csa := fun A B c d w h k => rsame14_c A B L L c d (by omega) (by omega) w h k
  rw [show decide (L = L) = true by simp] at csa
  have hcp := fun W (h : RowV KS W A L c) ty => copy_row ks_ok W h (by show L.length * 232 ≤ _; omega) (by unfold maxLen; omega) ty
  generalize allT L = E at cao
  clear hm hrt
  go_enter Tryd.func7, Tryd.ntmps7
  go_wp2_with (fail); refine (C.awake _ (hT.ext HE.out)).mono ?_; rintro e w' ⟨rfl, hE⟩; (try replace hm := hm.ext hE); (try replace h1 := h1.ext hE); (try replace h2 := h2.ext hE); (try replace h9 := h9.ext hE); (try replace HE := Lib.hid (HE.out.trans hE))
  clear hE
  go_wp2_with ((refine wpList_load_blk (by rfl) 24 _ rfl rfl (by first | exact h1 | exact h2 | exact h9) Tryd.underlying24 rfl (by kernel_rfl) ?_)); refine (crr _ (hrow _ HE.out)).mono ?_; rintro e w' ⟨rfl, hE⟩; (try replace hm := hm.ext hE); (try replace h1 := h1.ext hE); (try replace h2 := h2.ext hE); (try replace h9 := h9.ext hE); (try replace HE := Lib.hid (HE.out.trans hE))
  clear hE
  go_wp2_with ((refine wpList_load_blk (by rfl) 29 _ rfl rfl (by first | exact h1 | exact h2 | exact h9) Tryd.underlying29 rfl (by kernel_rfl) ?_)); refine (rme _).mono ?_; rintro e w' ⟨rfl, hE⟩; (try replace hm := hm.ext hE); (try replace h1 := h1.ext hE); (try replace h2 := h2.ext hE); (try replace h9 := h9.ext hE); (try replace HE := Lib.hid (HE.out.trans hE))
  clear hE
  have x0 := h2.en_v
  rw [hv] at x0
  clear crr rme
  have x1 : (w'.alloc (.cells #[] 52)).cell? ⟨w.heap.size, 0, none⟩ = some (.slice A L.length c) := ((h1.alloc _).cell 0).trans rfl
  have hcq := hcp _ (hrow _ HE.out)
  clear hcp
  go_upto_region 3 with fail
  go_upto_region 4 with (at_builtin; refine wpList_append_run' _ rfl _ _ _ rfl _ _ rfl rfl _ (hcq _) ?_; rintro v3 w3 ⟨hown, hE⟩; obtain ⟨A2, c2, rfl, r2, -⟩ := own_rowv ks_ok hown; (try replace hm := hm.ext hE); (try replace h1 := h1.ext hE); (try replace h2 := h2.ext hE); (try replace h9 := h9.ext hE); (try replace HE := Lib.hid (HE.out.trans hE)); (try replace r0 := r0.ext hE); (try replace r1 := r1.ext hE); (try replace r2 := r2.ext hE); (try replace r3 := r3.ext hE); (try replace r4 := r4.ext hE); (try replace r5 := r5.ext hE); (try replace r6 := r6.ext hE); clear hE hown)
  have q9 := Blk.new w3 24 #[.slice A2 L.length c2]
  have hE := (Ext.refl w3).alloc (.cells #[.slice A2 L.length c2] 24)
  (try replace hm := hm.ext hE); (try replace h1 := h1.ext hE); (try replace h2 := h2.ext hE); (try replace h9 := h9.ext hE); (try replace HE := Lib.hid (HE.out.trans hE)); (try replace r0 := r0.ext hE); (try replace r1 := r1.ext hE); (try replace r2 := r2.ext hE); (try replace r3 := r3.ext hE); (try replace r4 := r4.ext hE); (try replace r5 := r5.ext hE); (try replace r6 := r6.ext hE)
  clear hE x1 hcq
  have h9 := q9
  clear q9
  generalize w3.heap.size = g9 at *
  generalize w3.alloc (.cells #[.slice A2 L.length c2] 24) = W9 at *
  go_wp2_with ((first | (refine wpList_load_blk (by rfl) 24 _ rfl rfl (by first | exact h1 | exact h2 | exact h9) Tryd.underlying24 rfl (by kernel_rfl) ?_) | (refine wpList_load_blk (by rfl) 29 _ rfl rfl (by first | exact h1 | exact h2 | exact h9) Tryd.underlying29 rfl (by kernel_rfl) ?_))); refine (cpt _ _ _ r2 (hT.ext HE.out)).mono ?_; rintro e w' ⟨A3, c3, rfl, -, hE⟩; (try replace hm := hm.ext hE); (try replace h1 := h1.ext hE); (try replace h2 := h2.ext hE); (try replace h9 := h9.ext hE); (try replace HE := Lib.hid (HE.out.trans hE)); (try replace r0 := r0.ext hE); (try replace r1 := r1.ext hE); (try replace r2 := r2.ext hE); (try replace r3 := r3.ext hE); (try replace r4 := r4.ext hE); (try replace r5 := r5.ext hE); (try replace r6 := r6.ext hE); clear hE
  go_wp2_with ((refine wpList_load_blk (by rfl) 24 _ rfl rfl (by first | exact h1 | exact h2 | exact h9) Tryd.underlying24 rfl (by kernel_rfl) ?_)); refine (cdr _ _ _ r2 (hT.ext HE.out)).mono ?_; rintro e w' ⟨⟨x3, rfl⟩, hE⟩; (try replace hm := hm.ext hE); (try replace h1 := h1.ext hE); (try replace h2 := h2.ext hE); (try replace h9 := h9.ext hE); (try replace HE := Lib.hid (HE.out.trans hE)); (try replace r0 := r0.ext hE); (try replace r1 := r1.ext hE); (try replace r2 := r2.ext hE); (try replace r3 := r3.ext hE); (try replace r4 := r4.ext hE); (try replace r5 := r5.ext hE); (try replace r6 := r6.ext hE); clear hE
  clear cpt cdr
  by_cases h0 : L.length = 0
  · have h0z : decide (0 < L.length) = false := by rw [decide_eq_false_iff_not]; omega
    have x1 : w'.cell? ⟨g9, 0, none⟩ = some (.slice A2 L.length c2) := (h9.cell 0).trans rfl
    clear h0 cus
    go_wp2_with (refine wpList_load_blk (by rfl) 24 _ rfl rfl (by first | exact h1 | exact h2 | exact h9) Tryd.underlying24 rfl (by kernel_rfl) ?_)
    have HB := Lib.hid (Ext.refl w')
    refine (cao _ _ _ r2 (hT.ext HE.out)).mono ?_
    rintro e8 w9 ⟨v4, rfl, hown, hE9⟩
    clear cao
    have HE8 := Lib.hid hE9
    have h18 := h1
    have h98 := h9
    have r28 := r2
    have HEw := HE
    clear hE9 h1 h2 h9 r2 HE HB
    have hl8 : ∀ W, Ext w' W → w'.heap.size ≤ W.heap.size := fun W h => h.size
    obtain ⟨A5, c5, rfl⟩ := own_slK hown
    generalize hw8 : w'.heap.size = g8 at *
    have hlen : E.length ≤ 9223372036854775807 := by
      rcases hown.2 with ⟨-, h⟩ | ⟨_, _, _, _, _, _, h1, h2, _⟩
      · omega
      · unfold maxLen at h2; omega
    generalize hn5 : E.length = n5 at *
    go_wp2
    go_loopw [11] (fun i wr => ∃ (k : Nat) (M : List En), k ≤ n5 ∧ i = .int .i64 k ∧ Hid (M.length = n5) ∧ wr.ownsRow g8 KE.e KE.sz (.slice A5 n5 c5) n5 (KE.flat M) ∧ Ext w' wr) (fun i _ => (n5 - intOf i).toNat)
    case atStart => exact ⟨0, E, by omega, rfl, Lib.hid hn5, hown, HE8.out⟩
    case round =>
      clear hown HE8
      obtain ⟨k, M, hk, rfl, HM, hown, hE⟩ := hrel
      have HE8 := Lib.hid hE
      clear hE
      by_cases hlt : k < n5
      · have hkz : (k : Int) < (n5 : Int) := by omega
        obtain ⟨g, cap, cur, es, hv5, hbg, hbk, hfit, hes, hown2⟩ := own_put ke_ok (L := M) (i := k) (v := .slice A5 n5 c5) (by rw [HM.out]; exact hown) (by rw [HM.out]; exact hlt) e0
        injection hv5 with a1 a2 a3
        subst a1
        replace hfit : k * 11 + (enC e0).size ≤ cur.size := hfit
        replace hes : putAt cur (k * 11) (enC e0).toList = es := hes
        replace hbk : Blk wr g 29 cur := hbk
        have hlen2 := Lib.hid (show (M.set k e0).length = n5 by rw [List.length_set]; exact HM.out)
        rw [HM.out] at hown2
        have HE9 := Lib.hid (HE8.out.row (show w'.heap.size ≤ g by omega) es)
        clear hown HM a2 a3 hk
        go_wp2_with (first | (refine wpList_build_as (by rfl) rfl (e0_build) ?_) | (refine wpList_store_part rfl 29 _ _ rfl rfl rfl hbk (hfit) (hes) (en_info _) (enC_one _) ?_))
        go_roundw
        case rel => exact ⟨k + 1, M.set k e0, by omega, by go_num, hlen2, hown2, HE9.out⟩
        case measure => simp [intOf]; omega
      · obtain rfl : k = n5 := by omega
        have h1 := h18.ext HE8.out
        have h9 := h98.ext HE8.out
        have r2 := r28.ext HE8.out
        have HE := Lib.hid (HEw.out.trans HE8.out)
        clear hk hlt
        go_wp2_with ((refine wpList_load_blk (by rfl) 24 _ rfl rfl (by first | exact h1 | exact h2 | exact h9) Tryd.underlying24 rfl (by kernel_rfl) ?_)); refine (csa _ _ _ _ _ r2 (hrow _ HE.out)).mono ?_; rintro e w' ⟨rfl, hE⟩; (try replace hm := hm.ext hE); (try replace h1 := h1.ext hE); (try replace h2 := h2.ext hE); (try replace h9 := h9.ext hE); (try replace HE := Lib.hid (HE.out.trans hE)); (try replace r0 := r0.ext hE); (try replace r1 := r1.ext hE); (try replace r2 := r2.ext hE); (try replace r3 := r3.ext hE); (try replace r4 := r4.ext hE); (try replace r5 := r5.ext hE); (try replace r6 := r6.ext hE); clear hE
        go_wp2
        go_ret
        exact ⟨rfl, HE.out⟩
  · have h0z : decide (0 < L.length) = true := by rw [decide_eq_true_iff]; omega
    have x1 : w'.cell? ⟨g9, 0, none⟩ = some (.slice A2 L.length c2) := (h9.cell 0).trans rfl
    have hrem : (q : Int).tmod (L.length : Int) = ((q % L.length : Nat) : Int) := (Int.ofNat_tmod q L.length).symm
    have hlt : q % L.length < L.length := Nat.mod_lt _ (by omega)
    have hnz : ((L.length : Int) == 0) = false := by rw [beq_eq_false_iff_ne]; omega
    generalize q % L.length = i at *
    clear h0
    go_upto_region 7 with fail
    clear x1
    (try replace hm := Blk.drew hm); (try replace h1 := Blk.drew h1); (try replace h2 := Blk.drew h2); (try replace h9 := Blk.drew h9); replace HE := Lib.hid HE.out.drew
    replace r2 := r2.ext (Ext.refl _).drew
    refine wp_region_seq [(0, false), (1, false), (2, false), (3, false), (4, false), (5, false), (6, false), (7, true)] Ext (by kernel_rfl) (by kernel_rfl) Ext.refl (fun _ _ _ => Ext.trans) ?_; simp only [List.map, nth_z, nth_s]
    (try simp only [Act.put, List.setIfInBounds_toArray, List.set_cons_zero, List.set_cons_succ])
    (repeat (first | (refine seq_skip (by rfl) ?_; intro K hK; simp only [Act.put, List.setIfInBounds_toArray, List.set_cons_zero, List.set_cons_succ]; refine hK _ ?_; clear hK K) | (refine seq_skipc (by rfl) ?_; intro K hK; simp only [Act.put, List.setIfInBounds_toArray, List.set_cons_zero, List.set_cons_succ]; refine hK _ ?_; clear hK K) | (refine seq_read (by rfl) (by rfl) ?_; intro K hK; go_big_quiet_op; first | go_big_quiet_on | (refine ⟨_, fun _ _ => rfl, ?_⟩; go_big_quiet_on))))
    refine seq_load rfl rfl (fun x hx => Blk.ext (h9) hx) rfl Tryd.underlying24 (by kernel_rfl) (by rfl) ?_; intro K hK; simp only [Act.put, List.setIfInBounds_toArray, List.set_cons_zero, List.set_cons_succ]; refine hK _ ?_; clear hK K
    (repeat (first | (refine seq_skip (by rfl) ?_; intro K hK; simp only [Act.put, List.setIfInBounds_toArray, List.set_cons_zero, List.set_cons_succ]; refine hK _ ?_; clear hK K) | (refine seq_skipc (by rfl) ?_; intro K hK; simp only [Act.put, List.setIfInBounds_toArray, List.set_cons_zero, List.set_cons_succ]; refine hK _ ?_; clear hK K) | (refine seq_read (by rfl) (by rfl) ?_; intro K hK; go_big_quiet_op; first | go_big_quiet_on | (refine ⟨_, fun _ _ => rfl, ?_⟩; go_big_quiet_on))))
    refine seq_value ((.slice A2 L.length c2)) (by rfl) (fun x hx => by have hq := ext_cell hx ((h9.cell 0).trans rfl); simp [go_sem, execOp, Act.eval, hq]) ?_; intro K hK; simp only [Act.put, List.setIfInBounds_toArray, List.set_cons_zero, List.set_cons_succ]; refine hK _ ?_; clear hK K
    (repeat (first | (refine seq_skip (by rfl) ?_; intro K hK; simp only [Act.put, List.setIfInBounds_toArray, List.set_cons_zero, List.set_cons_succ]; refine hK _ ?_; clear hK K) | (refine seq_skipc (by rfl) ?_; intro K hK; simp only [Act.put, List.setIfInBounds_toArray, List.set_cons_zero, List.set_cons_succ]; refine hK _ ?_; clear hK K) | (refine seq_read (by rfl) (by rfl) ?_; intro K hK; go_big_quiet_op; first | go_big_quiet_on | (refine ⟨_, fun _ _ => rfl, ?_⟩; go_big_quiet_on))))
    refine seq_call (cus _ _ _ _ hlt r2 (hT.ext HE.out)) rfl Tryd.func20 (by kernel_rfl) (by kernel_rfl) (by rfl) (by rfl) ?_; intro K hK; rintro e w' ⟨A4, c4, rfl, -, hE⟩; refine ⟨_, rfl, hE, ?_⟩; simp only [Act.put, List.setIfInBounds_toArray, List.set_cons_zero, List.set_cons_succ]; refine hK _ _ ?_; clear hK K
    (try replace hm := hm.ext hE); (try replace h1 := h1.ext hE); (try replace h2 := h2.ext hE); (try replace h9 := h9.ext hE); (try replace HE := Lib.hid (HE.out.trans hE)); (try replace r0 := r0.ext hE); (try replace r1 := r1.ext hE); (try replace r2 := r2.ext hE); (try replace r3 := r3.ext hE); (try replace r4 := r4.ext hE); (try replace r5 := r5.ext hE); (try replace r6 := r6.ext hE)
    clear hE
    refine seq_done ?_
    clear hrem hlt hnz cus h0z
    go_wp2_with (refine wpList_load_blk (by rfl) 24 _ rfl rfl (by first | exact h1 | exact h2 | exact h9) Tryd.underlying24 rfl (by kernel_rfl) ?_)
    have HB := Lib.hid (Ext.refl w')
    refine (cao _ _ _ r2 (hT.ext HE.out)).mono ?_
    rintro e8 w9 ⟨v4, rfl, hown, hE9⟩
    clear cao
    have HE8 := Lib.hid hE9
    have h18 := h1
    have h98 := h9
    have r28 := r2
    have HEw := HE
    clear hE9 h1 h2 h9 r2 HE HB
    have hl8 : ∀ W, Ext w' W → w'.heap.size ≤ W.heap.size := fun W h => h.size
    obtain ⟨A5, c5, rfl⟩ := own_slK hown
    generalize hw8 : w'.heap.size = g8 at *
    have hlen : E.length ≤ 9223372036854775807 := by
      rcases hown.2 with ⟨-, h⟩ | ⟨_, _, _, _, _, _, h1, h2, _⟩
      · omega
      · unfold maxLen at h2; omega
    generalize hn5 : E.length = n5 at *
    go_wp2
    go_loopw [11] (fun i wr => ∃ (k : Nat) (M : List En), k ≤ n5 ∧ i = .int .i64 k ∧ Hid (M.length = n5) ∧ wr.ownsRow g8 KE.e KE.sz (.slice A5 n5 c5) n5 (KE.flat M) ∧ Ext w' wr) (fun i _ => (n5 - intOf i).toNat)
    case atStart => exact ⟨0, E, by omega, rfl, Lib.hid hn5, hown, HE8.out⟩
    case round =>
      clear hown HE8
      obtain ⟨k, M, hk, rfl, HM, hown, hE⟩ := hrel
      have HE8 := Lib.hid hE
      clear hE
      by_cases hlt : k < n5
      · have hkz : (k : Int) < (n5 : Int) := by omega
        obtain ⟨g, cap, cur, es, hv5, hbg, hbk, hfit, hes, hown2⟩ := own_put ke_ok (L := M) (i := k) (v := .slice A5 n5 c5) (by rw [HM.out]; exact hown) (by rw [HM.out]; exact hlt) e0
        injection hv5 with a1 a2 a3
        subst a1
        replace hfit : k * 11 + (enC e0).size ≤ cur.size := hfit
        replace hes : putAt cur (k * 11) (enC e0).toList = es := hes
        replace hbk : Blk wr g 29 cur := hbk
        have hlen2 := Lib.hid (show (M.set k e0).length = n5 by rw [List.length_set]; exact HM.out)
        rw [HM.out] at hown2
        have HE9 := Lib.hid (HE8.out.row (show w'.heap.size ≤ g by omega) es)
        clear hown HM a2 a3 hk
        go_wp2_with (first | (refine wpList_build_as (by rfl) rfl (e0_build) ?_) | (refine wpList_store_part rfl 29 _ _ rfl rfl rfl hbk (hfit) (hes) (en_info _) (enC_one _) ?_))
        go_roundw
        case rel => exact ⟨k + 1, M.set k e0, by omega, by go_num, hlen2, hown2, HE9.out⟩
        case measure => simp [intOf]; omega
      · obtain rfl : k = n5 := by omega
        have h1 := h18.ext HE8.out
        have h9 := h98.ext HE8.out
        have r2 := r28.ext HE8.out
        have HE := Lib.hid (HEw.out.trans HE8.out)
        clear hk hlt
        go_wp2_with ((refine wpList_load_blk (by rfl) 24 _ rfl rfl (by first | exact h1 | exact h2 | exact h9) Tryd.underlying24 rfl (by kernel_rfl) ?_)); refine (csa _ _ _ _ _ r2 (hrow _ HE.out)).mono ?_; rintro e w' ⟨rfl, hE⟩; (try replace hm := hm.ext hE); (try replace h1 := h1.ext hE); (try replace h2 := h2.ext hE); (try replace h9 := h9.ext hE); (try replace HE := Lib.hid (HE.out.trans hE)); (try replace r0 := r0.ext hE); (try replace r1 := r1.ext hE); (try replace r2 := r2.ext hE); (try replace r3 := r3.ext hE); (try replace r4 := r4.ext hE); (try replace r5 := r5.ext hE); (try replace r6 := r6.ext hE); clear hE
        go_wp2
        go_ret
        exact ⟨rfl, HE.out⟩
end Go.Proofs.YtdbflmceomnmlaaDoor
