/- TlbFinds, over the package's contracts (TlbC). -/
import Derived.Test.YtdbflmceomnmlaaDoorLaw14a
namespace Go.Proofs.YtdbflmceomnmlaaDoor
open Go.ChangeShapes Go.WideShapes Go.ChangeAt Go.RowKit
set_option linter.unusedVariables false
set_option linter.unusedSimpArgs false

theorem e0_ok14 : e0.ok := by unfold e0 En.ok Pm.ok; decide
theorem ok_of14 {s : St} (ht : s.t < 256) (h : ∀ k, k < 4 → (s.ws.at k).ok) : s.ok := ⟨⟨h 0 (by decide), h 1 (by decide), h 2 (by decide), h 3 (by decide)⟩, ht⟩
theorem putS_ok14 {s : St} (hs : s.ok) (ht : s.t < 8) {e : En} (he : e.ok) (v : Int) : (putS e v s).ok := ok_of14 (by rw [putS_t]; have := to_lt ht (wayS e v s); omega) fun k hk => by
  rw [putS_at ht hk]
  split
  · exact he
  split
  · exact e0_ok14
  · exact at_ok hs.1 hk
theorem found_may {n a : Int} {L : List St} (hr : rightT L = true) (h : okT n a L = true) : mayE (enT n a L) = true := all_may hr (found_mem h).1
set_option maxRecDepth 100000 in
set_option maxHeartbeats 8000000 in
theorem TlbFinds_w (C : TlbC) (A : Option Addr) (L : List St) (c n a : Nat) (e : En) (v : Int) (he : e.ok) (n1 : n < 18446744073709551616) (a1 : a < 18446744073709551616) (hok : ∀ i, i < L.length → (sT L i).ok) (w : World) (hr : RowV KS w A L c) (hT : Lays w) :
    Calls Tryd.prog 4 #[.agg #[.slice A L.length c], .agg (enC e), .int .i64 v, .int .u64 (a : Int), .int .u64 (n : Int)] w fun r w' => r = .returned (.bool true) ∧ Ext w w' := by
  have h1 : Blk ((w.alloc (.cells #[.slice A L.length c] 24)).alloc (.cells (enC e) 29)) w.heap.size 24 #[.slice A L.length c] := (Blk.new w _ _).alloc _
  have h2 : Blk ((w.alloc (.cells #[.slice A L.length c] 24)).alloc (.cells (enC e) 29)) (w.heap.size + 1) 29 (enC e) := blk_at (by simp)
  have HE := Lib.hid (((Ext.refl w).alloc (.cells #[.slice A L.length c] 24)).alloc (.cells (enC e) 29))
  have hrow : ∀ W : World, Ext w W → RowV KS W A L c := fun W h => hr.ext h
  have hLm : L.length ≤ 9223372036854775807 := Nat.le_trans hr.2.2.1 hr.2.2.2
  have crr := fun w h => rright14_c A L c hLm w h
  cases hrt : rightT L
  · rw [hrt] at crr
    go_enter Tryd.func4, Tryd.ntmps4
    go_wp2_with (fail); refine (C.awake _ (hT.ext HE.out)).mono ?_; rintro e w' ⟨rfl, hE⟩; (try replace hb := hb.ext hE); (try replace hz := hz.ext hE); (try replace hm := hm.ext hE); (try replace h1 := h1.ext hE); (try replace h2 := h2.ext hE); (try replace h3 := h3.ext hE); (try replace h4 := h4.ext hE); (try replace h5 := h5.ext hE); (try replace h7 := h7.ext hE); (try replace HE := Lib.hid (HE.out.trans hE))
    clear hE
    go_wp2_with ((refine wpList_load_blk (by rfl) 24 _ rfl rfl (by first | exact h1 | exact h2 | exact h3 | exact h4 | exact h5 | exact h7 | exact hb | exact hz) Tryd.underlying24 rfl (by kernel_rfl) ?_)); refine (crr _ (hrow _ HE.out)).mono ?_; rintro e w' ⟨rfl, hE⟩; (try replace hb := hb.ext hE); (try replace hz := hz.ext hE); (try replace hm := hm.ext hE); (try replace h1 := h1.ext hE); (try replace h2 := h2.ext hE); (try replace h3 := h3.ext hE); (try replace h4 := h4.ext hE); (try replace h5 := h5.ext hE); (try replace h7 := h7.ext hE); (try replace HE := Lib.hid (HE.out.trans hE))
    clear hE
    go_wp2_with ((first | (refine wpList_load_blk (by rfl) 29 _ rfl rfl (by first | exact h1 | exact h2 | exact h3 | exact h4 | exact h5 | exact h7 | exact hb | exact hz) Tryd.underlying29 rfl (by kernel_rfl) ?_) | (refine wpList_load_blk (by rfl) 24 _ rfl rfl (by first | exact h1 | exact h2 | exact h3 | exact h4 | exact h5 | exact h7 | exact hb | exact hz) Tryd.underlying24 rfl (by kernel_rfl) ?_))); refine (C.awake _ (hT.ext HE.out)).mono ?_; rintro e w' ⟨rfl, hE⟩; (try replace hb := hb.ext hE); (try replace hz := hz.ext hE); (try replace hm := hm.ext hE); (try replace h1 := h1.ext hE); (try replace h2 := h2.ext hE); (try replace h3 := h3.ext hE); (try replace h4 := h4.ext hE); (try replace h5 := h5.ext hE); (try replace h7 := h7.ext hE); (try replace HE := Lib.hid (HE.out.trans hE))
    clear hE
    go_wp2
    go_ret
    exact ⟨rfl, HE.out⟩
  rw [hrt] at crr
  have rme := fun w => rmay12_c e w
  cases hm : mayE e
  · rw [hm] at rme
    go_enter Tryd.func4, Tryd.ntmps4
    go_wp2_with (fail); refine (C.awake _ (hT.ext HE.out)).mono ?_; rintro e w' ⟨rfl, hE⟩; (try replace hb := hb.ext hE); (try replace hz := hz.ext hE); (try replace hm := hm.ext hE); (try replace h1 := h1.ext hE); (try replace h2 := h2.ext hE); (try replace h3 := h3.ext hE); (try replace h4 := h4.ext hE); (try replace h5 := h5.ext hE); (try replace h7 := h7.ext hE); (try replace HE := Lib.hid (HE.out.trans hE))
    clear hE
    go_wp2_with ((refine wpList_load_blk (by rfl) 24 _ rfl rfl (by first | exact h1 | exact h2 | exact h3 | exact h4 | exact h5 | exact h7 | exact hb | exact hz) Tryd.underlying24 rfl (by kernel_rfl) ?_)); refine (crr _ (hrow _ HE.out)).mono ?_; rintro e w' ⟨rfl, hE⟩; (try replace hb := hb.ext hE); (try replace hz := hz.ext hE); (try replace hm := hm.ext hE); (try replace h1 := h1.ext hE); (try replace h2 := h2.ext hE); (try replace h3 := h3.ext hE); (try replace h4 := h4.ext hE); (try replace h5 := h5.ext hE); (try replace h7 := h7.ext hE); (try replace HE := Lib.hid (HE.out.trans hE))
    clear hE
    go_wp2_with ((refine wpList_load_blk (by rfl) 29 _ rfl rfl (by first | exact h1 | exact h2 | exact h3 | exact h4 | exact h5 | exact h7 | exact hb | exact hz) Tryd.underlying29 rfl (by kernel_rfl) ?_)); refine (rme _).mono ?_; rintro e w' ⟨rfl, hE⟩; (try replace hb := hb.ext hE); (try replace hz := hz.ext hE); (try replace hm := hm.ext hE); (try replace h1 := h1.ext hE); (try replace h2 := h2.ext hE); (try replace h3 := h3.ext hE); (try replace h4 := h4.ext hE); (try replace h5 := h5.ext hE); (try replace h7 := h7.ext hE); (try replace HE := Lib.hid (HE.out.trans hE))
    clear hE
    go_wp2_with ((first | (refine wpList_load_blk (by rfl) 29 _ rfl rfl (by first | exact h1 | exact h2 | exact h3 | exact h4 | exact h5 | exact h7 | exact hb | exact hz) Tryd.underlying29 rfl (by kernel_rfl) ?_) | (refine wpList_load_blk (by rfl) 24 _ rfl rfl (by first | exact h1 | exact h2 | exact h3 | exact h4 | exact h5 | exact h7 | exact hb | exact hz) Tryd.underlying24 rfl (by kernel_rfl) ?_))); refine (C.awake _ (hT.ext HE.out)).mono ?_; rintro e w' ⟨rfl, hE⟩; (try replace hb := hb.ext hE); (try replace hz := hz.ext hE); (try replace hm := hm.ext hE); (try replace h1 := h1.ext hE); (try replace h2 := h2.ext hE); (try replace h3 := h3.ext hE); (try replace h4 := h4.ext hE); (try replace h5 := h5.ext hE); (try replace h7 := h7.ext hE); (try replace HE := Lib.hid (HE.out.trans hE))
    clear hE
    go_wp2
    go_ret
    exact ⟨rfl, HE.out⟩
  rw [hm] at rme
  cases hv : e.v
  · skip
    go_enter Tryd.func4, Tryd.ntmps4
    go_wp2_with (fail); refine (C.awake _ (hT.ext HE.out)).mono ?_; rintro e w' ⟨rfl, hE⟩; (try replace hb := hb.ext hE); (try replace hz := hz.ext hE); (try replace hm := hm.ext hE); (try replace h1 := h1.ext hE); (try replace h2 := h2.ext hE); (try replace h3 := h3.ext hE); (try replace h4 := h4.ext hE); (try replace h5 := h5.ext hE); (try replace h7 := h7.ext hE); (try replace HE := Lib.hid (HE.out.trans hE))
    clear hE
    go_wp2_with ((refine wpList_load_blk (by rfl) 24 _ rfl rfl (by first | exact h1 | exact h2 | exact h3 | exact h4 | exact h5 | exact h7 | exact hb | exact hz) Tryd.underlying24 rfl (by kernel_rfl) ?_)); refine (crr _ (hrow _ HE.out)).mono ?_; rintro e w' ⟨rfl, hE⟩; (try replace hb := hb.ext hE); (try replace hz := hz.ext hE); (try replace hm := hm.ext hE); (try replace h1 := h1.ext hE); (try replace h2 := h2.ext hE); (try replace h3 := h3.ext hE); (try replace h4 := h4.ext hE); (try replace h5 := h5.ext hE); (try replace h7 := h7.ext hE); (try replace HE := Lib.hid (HE.out.trans hE))
    clear hE
    go_wp2_with ((refine wpList_load_blk (by rfl) 29 _ rfl rfl (by first | exact h1 | exact h2 | exact h3 | exact h4 | exact h5 | exact h7 | exact hb | exact hz) Tryd.underlying29 rfl (by kernel_rfl) ?_)); refine (rme _).mono ?_; rintro e w' ⟨rfl, hE⟩; (try replace hb := hb.ext hE); (try replace hz := hz.ext hE); (try replace hm := hm.ext hE); (try replace h1 := h1.ext hE); (try replace h2 := h2.ext hE); (try replace h3 := h3.ext hE); (try replace h4 := h4.ext hE); (try replace h5 := h5.ext hE); (try replace h7 := h7.ext hE); (try replace HE := Lib.hid (HE.out.trans hE))
    clear hE
    have x0 := h2.en_v
    rw [hv] at x0
    go_wp2_with ((first | (refine wpList_load_blk (by rfl) 29 _ rfl rfl (by first | exact h1 | exact h2 | exact h3 | exact h4 | exact h5 | exact h7 | exact hb | exact hz) Tryd.underlying29 rfl (by kernel_rfl) ?_) | (refine wpList_load_blk (by rfl) 24 _ rfl rfl (by first | exact h1 | exact h2 | exact h3 | exact h4 | exact h5 | exact h7 | exact hb | exact hz) Tryd.underlying24 rfl (by kernel_rfl) ?_))); refine (C.awake _ (hT.ext HE.out)).mono ?_; rintro e w' ⟨rfl, hE⟩; (try replace hb := hb.ext hE); (try replace hz := hz.ext hE); (try replace hm := hm.ext hE); (try replace h1 := h1.ext hE); (try replace h2 := h2.ext hE); (try replace h3 := h3.ext hE); (try replace h4 := h4.ext hE); (try replace h5 := h5.ext hE); (try replace h7 := h7.ext hE); (try replace HE := Lib.hid (HE.out.trans hE))
    clear hE
    go_wp2
    go_ret
    exact ⟨rfl, HE.out⟩
  have HV := Lib.hid hv
  have cis := fun w => ris5_c (a : Int) (by omega) (by omega) w
  cases hva : vaB (a : Int)
  · rw [hva] at cis
    clear hv
    go_enter Tryd.func4, Tryd.ntmps4
    go_wp2_with (fail); refine (C.awake _ (hT.ext HE.out)).mono ?_; rintro e w' ⟨rfl, hE⟩; (try replace hb := hb.ext hE); (try replace hz := hz.ext hE); (try replace hm := hm.ext hE); (try replace h1 := h1.ext hE); (try replace h2 := h2.ext hE); (try replace h3 := h3.ext hE); (try replace h4 := h4.ext hE); (try replace h5 := h5.ext hE); (try replace h7 := h7.ext hE); (try replace HE := Lib.hid (HE.out.trans hE))
    clear hE
    go_wp2_with ((refine wpList_load_blk (by rfl) 24 _ rfl rfl (by first | exact h1 | exact h2 | exact h3 | exact h4 | exact h5 | exact h7 | exact hb | exact hz) Tryd.underlying24 rfl (by kernel_rfl) ?_)); refine (crr _ (hrow _ HE.out)).mono ?_; rintro e w' ⟨rfl, hE⟩; (try replace hb := hb.ext hE); (try replace hz := hz.ext hE); (try replace hm := hm.ext hE); (try replace h1 := h1.ext hE); (try replace h2 := h2.ext hE); (try replace h3 := h3.ext hE); (try replace h4 := h4.ext hE); (try replace h5 := h5.ext hE); (try replace h7 := h7.ext hE); (try replace HE := Lib.hid (HE.out.trans hE))
    clear hE
    go_wp2_with ((refine wpList_load_blk (by rfl) 29 _ rfl rfl (by first | exact h1 | exact h2 | exact h3 | exact h4 | exact h5 | exact h7 | exact hb | exact hz) Tryd.underlying29 rfl (by kernel_rfl) ?_)); refine (rme _).mono ?_; rintro e w' ⟨rfl, hE⟩; (try replace hb := hb.ext hE); (try replace hz := hz.ext hE); (try replace hm := hm.ext hE); (try replace h1 := h1.ext hE); (try replace h2 := h2.ext hE); (try replace h3 := h3.ext hE); (try replace h4 := h4.ext hE); (try replace h5 := h5.ext hE); (try replace h7 := h7.ext hE); (try replace HE := Lib.hid (HE.out.trans hE))
    clear hE
    have x0 := h2.en_v
    rw [HV.out] at x0
    go_wp2_with (fail); refine (calls_ext (cis _)).mono ?_; rintro e w' ⟨rfl, hE⟩; (try replace hb := hb.ext hE); (try replace hz := hz.ext hE); (try replace hm := hm.ext hE); (try replace h1 := h1.ext hE); (try replace h2 := h2.ext hE); (try replace h3 := h3.ext hE); (try replace h4 := h4.ext hE); (try replace h5 := h5.ext hE); (try replace h7 := h7.ext hE); (try replace HE := Lib.hid (HE.out.trans hE))
    clear hE x0
    go_wp2_with ((first | (refine wpList_load_blk (by rfl) 29 _ rfl rfl (by first | exact h1 | exact h2 | exact h3 | exact h4 | exact h5 | exact h7 | exact hb | exact hz) Tryd.underlying29 rfl (by kernel_rfl) ?_) | (refine wpList_load_blk (by rfl) 24 _ rfl rfl (by first | exact h1 | exact h2 | exact h3 | exact h4 | exact h5 | exact h7 | exact hb | exact hz) Tryd.underlying24 rfl (by kernel_rfl) ?_))); refine (C.awake _ (hT.ext HE.out)).mono ?_; rintro e w' ⟨rfl, hE⟩; (try replace hb := hb.ext hE); (try replace hz := hz.ext hE); (try replace hm := hm.ext hE); (try replace h1 := h1.ext hE); (try replace h2 := h2.ext hE); (try replace h3 := h3.ext hE); (try replace h4 := h4.ext hE); (try replace h5 := h5.ext hE); (try replace h7 := h7.ext hE); (try replace HE := Lib.hid (HE.out.trans hE))
    clear hE
    go_wp2
    go_ret
    exact ⟨rfl, HE.out⟩
  rw [hva] at cis
  have hl16 := rt_len hrt
  by_cases h0 : L.length = 0
  · have hz : ((L.length : Int) == 0) = true := by rw [h0]; rfl
    clear hv h0
    go_enter Tryd.func4, Tryd.ntmps4
    go_wp2_with (fail); refine (C.awake _ (hT.ext HE.out)).mono ?_; rintro e w' ⟨rfl, hE⟩; (try replace hb := hb.ext hE); (try replace hz := hz.ext hE); (try replace hm := hm.ext hE); (try replace h1 := h1.ext hE); (try replace h2 := h2.ext hE); (try replace h3 := h3.ext hE); (try replace h4 := h4.ext hE); (try replace h5 := h5.ext hE); (try replace h7 := h7.ext hE); (try replace HE := Lib.hid (HE.out.trans hE))
    clear hE
    go_wp2_with ((refine wpList_load_blk (by rfl) 24 _ rfl rfl (by first | exact h1 | exact h2 | exact h3 | exact h4 | exact h5 | exact h7 | exact hb | exact hz) Tryd.underlying24 rfl (by kernel_rfl) ?_)); refine (crr _ (hrow _ HE.out)).mono ?_; rintro e w' ⟨rfl, hE⟩; (try replace hb := hb.ext hE); (try replace hz := hz.ext hE); (try replace hm := hm.ext hE); (try replace h1 := h1.ext hE); (try replace h2 := h2.ext hE); (try replace h3 := h3.ext hE); (try replace h4 := h4.ext hE); (try replace h5 := h5.ext hE); (try replace h7 := h7.ext hE); (try replace HE := Lib.hid (HE.out.trans hE))
    clear hE
    go_wp2_with ((refine wpList_load_blk (by rfl) 29 _ rfl rfl (by first | exact h1 | exact h2 | exact h3 | exact h4 | exact h5 | exact h7 | exact hb | exact hz) Tryd.underlying29 rfl (by kernel_rfl) ?_)); refine (rme _).mono ?_; rintro e w' ⟨rfl, hE⟩; (try replace hb := hb.ext hE); (try replace hz := hz.ext hE); (try replace hm := hm.ext hE); (try replace h1 := h1.ext hE); (try replace h2 := h2.ext hE); (try replace h3 := h3.ext hE); (try replace h4 := h4.ext hE); (try replace h5 := h5.ext hE); (try replace h7 := h7.ext hE); (try replace HE := Lib.hid (HE.out.trans hE))
    clear hE
    have x0 := h2.en_v
    rw [HV.out] at x0
    go_wp2_with (fail); refine (calls_ext (cis _)).mono ?_; rintro e w' ⟨rfl, hE⟩; (try replace hb := hb.ext hE); (try replace hz := hz.ext hE); (try replace hm := hm.ext hE); (try replace h1 := h1.ext hE); (try replace h2 := h2.ext hE); (try replace h3 := h3.ext hE); (try replace h4 := h4.ext hE); (try replace h5 := h5.ext hE); (try replace h7 := h7.ext hE); (try replace HE := Lib.hid (HE.out.trans hE))
    clear hE x0
    have x1 : ∀ W : World, Blk W w.heap.size 24 #[.slice A L.length c] → W.cell? ⟨w.heap.size, 0, none⟩ = some (.slice A L.length c) := fun W h => (h.cell 0).trans rfl
    replace x1 := x1 _ h1
    go_wp2_with ((first | (refine wpList_load_blk (by rfl) 29 _ rfl rfl (by first | exact h1 | exact h2 | exact h3 | exact h4 | exact h5 | exact h7 | exact hb | exact hz) Tryd.underlying29 rfl (by kernel_rfl) ?_) | (refine wpList_load_blk (by rfl) 24 _ rfl rfl (by first | exact h1 | exact h2 | exact h3 | exact h4 | exact h5 | exact h7 | exact hb | exact hz) Tryd.underlying24 rfl (by kernel_rfl) ?_))); refine (C.awake _ (hT.ext HE.out)).mono ?_; rintro e w' ⟨rfl, hE⟩; (try replace hb := hb.ext hE); (try replace hz := hz.ext hE); (try replace hm := hm.ext hE); (try replace h1 := h1.ext hE); (try replace h2 := h2.ext hE); (try replace h3 := h3.ext hE); (try replace h4 := h4.ext hE); (try replace h5 := h5.ext hE); (try replace h7 := h7.ext hE); (try replace HE := Lib.hid (HE.out.trans hE))
    clear hE
    go_wp2
    go_ret
    exact ⟨rfl, HE.out⟩
  have hz : ((L.length : Int) == 0) = false := by rw [beq_eq_false_iff_ne]; omega
  have cpt := fun w h k => C.put A L c e v w hrt hm hv h k
  have hMr := rt_put hrt hm v
  have hMl := putT_len e v L
  have hcov := fun h => put_cov hrt (by omega) hm v (a := a) h
  have hnew := fun h k => put_new hrt (by omega) hm v (n := n) (a := a) h k
  have hMok : ∀ i, i < (putT e v L).length → (sT (putT e v L) i).ok := fun i hi => by
    have hp : 0 < L.length := by omega
    have hx := ix_lt hp (e.vp : Int) e.l
    rw [putT_len] at hi
    rw [putT_pos hp, sT_set hx]
    split
    · exact putS_ok14 (hok _ hx) (right_t (rt_s hrt hx)) he v
    · exact hok i hi
  generalize putT e v L = M at *
  have hne : ((M.length : Int) != (L.length : Int)) = false := by rw [hMl]; simp
  have HMl := Lib.hid hMl
  clear hMl
  have crm := fun A2 c2 w h k => C.right A2 M c2 w hMok h k
  rw [hMr] at crm
  have cfx := fun A2 c2 w h k => C.find A2 M c2 e.n a w hMr he.1 a1 hva h k
  have cft := fun w h k => C.find A L c n a w hrt n1 a1 hva h k
  have cfy := fun A2 c2 w h k => C.find A2 M c2 n a w hMr n1 a1 hva h k
  have ccv := fun w => rcovers_c e hm (a : Int) hva (by omega) (by omega) w
  have cma := fun (h : okT e.n a M = true) w => rmatches_c (enT e.n a M) (found_may hMr h) (e.n : Int) (a : Int) (by have := he.1; omega) (by have := he.1; omega) hva (by omega) (by omega) w
  have hmt := fun (h : okT e.n a M = true) => found_mat h
  have hF := fun (h : okT e.n a M = true) => found h
  have hel : ∀ (A2 : Option Addr) (c2 : Nat) (W : World), RowV KS W A2 M c2 → okT e.n a M = true → ∃ b off, A2 = some ⟨b, off, none⟩ ∧ W.rangeAt b (off + seT e.n a M * 45 + wyT e.n a M * 11) (enC (enT e.n a M)).toList := fun A2 c2 W hW h => by
    have F := found h
    have hil := F.il
    obtain ⟨b, off, rfl, hb, hrx⟩ := hW.some (by omega)
    have e1 : W.rangeAt b (off + seT e.n a M * 45) (stC (sT M (seT e.n a M))).toList := by rw [sT_eq]; exact hrx _ F.il
    have e2 := rng_way e1 F.wl
    rw [F.own] at e2
    exact ⟨b, off, rfl, e2⟩
  have hlt : okT e.n a M = true → seT e.n a M < M.length ∧ wyT e.n a M < 4 := fun h => ⟨(found h).il, (found h).wl⟩
  clear hF hva hrt hm hok hMok he hMr hl16
  generalize enT (e.n : Int) a M = f at *
  generalize okT (e.n : Int) a M = o at *
  generalize seT (e.n : Int) a M = i at *
  generalize wyT (e.n : Int) a M = y at *
  generalize matE f (e.n : Int) a = mt at *
  generalize covE e a = cv at *
  generalize okT (n : Int) a L = oL at *
  generalize okT (n : Int) a M = oM at *
  generalize enT (n : Int) a L = fL at *
  generalize enT (n : Int) a M = fM at *
  clear hv
  go_enter Tryd.func4, Tryd.ntmps4
  go_wp2_with (fail); refine (C.awake _ (hT.ext HE.out)).mono ?_; rintro e w' ⟨rfl, hE⟩; (try replace hb := hb.ext hE); (try replace hz := hz.ext hE); (try replace hm := hm.ext hE); (try replace h1 := h1.ext hE); (try replace h2 := h2.ext hE); (try replace h3 := h3.ext hE); (try replace h4 := h4.ext hE); (try replace h5 := h5.ext hE); (try replace h7 := h7.ext hE); (try replace HE := Lib.hid (HE.out.trans hE))
  clear hE
  go_wp2_with ((refine wpList_load_blk (by rfl) 24 _ rfl rfl (by first | exact h1 | exact h2 | exact h3 | exact h4 | exact h5 | exact h7 | exact hb | exact hz) Tryd.underlying24 rfl (by kernel_rfl) ?_)); refine (crr _ (hrow _ HE.out)).mono ?_; rintro e w' ⟨rfl, hE⟩; (try replace hb := hb.ext hE); (try replace hz := hz.ext hE); (try replace hm := hm.ext hE); (try replace h1 := h1.ext hE); (try replace h2 := h2.ext hE); (try replace h3 := h3.ext hE); (try replace h4 := h4.ext hE); (try replace h5 := h5.ext hE); (try replace h7 := h7.ext hE); (try replace HE := Lib.hid (HE.out.trans hE))
  clear hE
  go_wp2_with ((refine wpList_load_blk (by rfl) 29 _ rfl rfl (by first | exact h1 | exact h2 | exact h3 | exact h4 | exact h5 | exact h7 | exact hb | exact hz) Tryd.underlying29 rfl (by kernel_rfl) ?_)); refine (rme _).mono ?_; rintro e w' ⟨rfl, hE⟩; (try replace hb := hb.ext hE); (try replace hz := hz.ext hE); (try replace hm := hm.ext hE); (try replace h1 := h1.ext hE); (try replace h2 := h2.ext hE); (try replace h3 := h3.ext hE); (try replace h4 := h4.ext hE); (try replace h5 := h5.ext hE); (try replace h7 := h7.ext hE); (try replace HE := Lib.hid (HE.out.trans hE))
  clear hE
  have x0 := h2.en_v
  rw [HV.out] at x0
  go_wp2_with (fail); refine (calls_ext (cis _)).mono ?_; rintro e w' ⟨rfl, hE⟩; (try replace hb := hb.ext hE); (try replace hz := hz.ext hE); (try replace hm := hm.ext hE); (try replace h1 := h1.ext hE); (try replace h2 := h2.ext hE); (try replace h3 := h3.ext hE); (try replace h4 := h4.ext hE); (try replace h5 := h5.ext hE); (try replace h7 := h7.ext hE); (try replace HE := Lib.hid (HE.out.trans hE))
  clear hE x0
  have x1 : ∀ W : World, Blk W w.heap.size 24 #[.slice A L.length c] → W.cell? ⟨w.heap.size, 0, none⟩ = some (.slice A L.length c) := fun W h => (h.cell 0).trans rfl
  have x2 := x1 _ h1
  go_wp2_with ((first | (refine wpList_load_blk (by rfl) 29 _ rfl rfl (by first | exact h1 | exact h2 | exact h3 | exact h4 | exact h5 | exact h7 | exact hb | exact hz) Tryd.underlying29 rfl (by kernel_rfl) ?_) | (refine wpList_load_blk (by rfl) 24 _ rfl rfl (by first | exact h1 | exact h2 | exact h3 | exact h4 | exact h5 | exact h7 | exact hb | exact hz) Tryd.underlying24 rfl (by kernel_rfl) ?_))); refine (cpt _ (hrow _ HE.out) (hT.ext HE.out)).mono ?_; rintro e w' ⟨A2, c2, rfl, hr2, hE⟩; (try replace hb := hb.ext hE); (try replace hz := hz.ext hE); (try replace hm := hm.ext hE); (try replace h1 := h1.ext hE); (try replace h2 := h2.ext hE); (try replace h3 := h3.ext hE); (try replace h4 := h4.ext hE); (try replace h5 := h5.ext hE); (try replace h7 := h7.ext hE); (try replace HE := Lib.hid (HE.out.trans hE))
  clear hE x2 cpt rme cis crr
  have h3 := Blk.new w' 24 #[.slice A2 M.length c2]
  have hE := (Ext.refl w').alloc (.cells #[.slice A2 M.length c2] 24)
  replace h1 := h1.ext hE
  replace h2 := h2.ext hE
  replace hr2 := hr2.ext hE
  replace HE := Lib.hid (HE.out.trans hE)
  clear hE
  go_upto_region 4 with fail
  generalize w'.heap.size = g3 at *
  generalize w'.alloc (.cells #[.slice A2 M.length c2] 24) = W1 at *
  have hrw2 : ∀ W : World, Ext W1 W → RowV KS W A2 M c2 := fun W h => hr2.ext h
  have HE1 := Lib.hid (Ext.refl W1)
  go_wp2_with ((first | (refine wpList_load_blk (by rfl) 29 _ rfl rfl (by first | exact h1 | exact h2 | exact h3 | exact h4 | exact h5 | exact h7 | exact hb | exact hz) Tryd.underlying29 rfl (by kernel_rfl) ?_) | (refine wpList_load_blk (by rfl) 24 _ rfl rfl (by first | exact h1 | exact h2 | exact h3 | exact h4 | exact h5 | exact h7 | exact hb | exact hz) Tryd.underlying24 rfl (by kernel_rfl) ?_))); refine (crm A2 c2 _ (hrw2 _ HE1.out) (hT.ext HE.out)).mono ?_; rintro e w' ⟨rfl, hE⟩; (try replace h1 := h1.ext hE); (try replace h2 := h2.ext hE); (try replace h3 := h3.ext hE); (try replace h4 := h4.ext hE); (try replace h5 := h5.ext hE); (try replace h7 := h7.ext hE); (try replace HE := Lib.hid (HE.out.trans hE)); (try replace HE1 := Lib.hid (HE1.out.trans hE))
  clear hE crm hr2
  have x2 := x1 _ h1
  have x3 : w'.cell? ⟨g3, 0, none⟩ = some (.slice A2 M.length c2) := (h3.cell 0).trans rfl
  have xn := h2.en_n
  go_wp2_with ((first | (refine wpList_load_blk (by rfl) 29 _ rfl rfl (by first | exact h1 | exact h2 | exact h3 | exact h4 | exact h5 | exact h7 | exact hb | exact hz) Tryd.underlying29 rfl (by kernel_rfl) ?_) | (refine wpList_load_blk (by rfl) 24 _ rfl rfl (by first | exact h1 | exact h2 | exact h3 | exact h4 | exact h5 | exact h7 | exact hb | exact hz) Tryd.underlying24 rfl (by kernel_rfl) ?_))); refine (cfx A2 c2 _ (hrw2 _ HE1.out) (hT.ext HE.out)).mono ?_; rintro e w' ⟨rfl, hE⟩; (try replace h1 := h1.ext hE); (try replace h2 := h2.ext hE); (try replace h3 := h3.ext hE); (try replace h4 := h4.ext hE); (try replace h5 := h5.ext hE); (try replace h7 := h7.ext hE); (try replace HE := Lib.hid (HE.out.trans hE)); (try replace HE1 := Lib.hid (HE1.out.trans hE))
  clear hE cfx x2 x3 xn
  have h4 := Blk.new w' 29 (enC f)
  have hE := (Ext.refl w').alloc (.cells (enC f) 29)
  (try replace h1 := h1.ext hE); (try replace h2 := h2.ext hE); (try replace h3 := h3.ext hE); (try replace h4 := h4.ext hE); (try replace h5 := h5.ext hE); (try replace h7 := h7.ext hE); (try replace HE := Lib.hid (HE.out.trans hE)); (try replace HE1 := Lib.hid (HE1.out.trans hE))
  clear hE
  go_upto_region 7 with (first | (refine wpList_store_new rfl 29 _ _ rfl (enC _) _ _ rfl rfl (en_info _) (by simp [enC_size]) (enC_one _) ?_) | (refine wpList_load_blk (by rfl) 29 _ rfl rfl (by first | exact h1 | exact h2 | exact h3 | exact h4 | exact h5 | exact h7 | exact hb | exact hz) Tryd.underlying29 rfl (by kernel_rfl) ?_))
  generalize w'.heap.size = g4 at *
  generalize w'.alloc (.cells (enC f) 29) = W2 at *
  go_cut [103] from 79 to 103 (fun z wx => z = .bool false ∧ Blk wx w.heap.size 24 #[.slice A L.length c] ∧ Blk wx (w.heap.size + 1) 29 (enC e) ∧ Blk wx g3 24 #[.slice A2 M.length c2] ∧ Blk wx g4 29 (enC f) ∧ Ext w wx ∧ Ext W1 wx)
  case first =>
    clear hel hlt hnew cft cfy
    cases cv
    · go_wp2_with ((refine wpList_load_blk (by rfl) 29 _ rfl rfl (by first | exact h1 | exact h2 | exact h3 | exact h4 | exact h5 | exact h7 | exact hb | exact hz) Tryd.underlying29 rfl (by kernel_rfl) ?_)); refine (ccv _).mono ?_; rintro e w' ⟨rfl, hE⟩; (try replace h1 := h1.ext hE); (try replace h2 := h2.ext hE); (try replace h3 := h3.ext hE); (try replace h4 := h4.ext hE); (try replace h5 := h5.ext hE); (try replace h7 := h7.ext hE); (try replace HE := Lib.hid (HE.out.trans hE)); (try replace HE1 := Lib.hid (HE1.out.trans hE))
      clear hE
      cases o
      · skip
        go_wp2_with fail
        go_meet
        case rel => exact ⟨rfl, h1, h2, h3, h4, HE.out, HE1.out⟩
      · obtain rfl := hmt rfl
        have xn := h2.en_n
        go_wp2_with ((refine wpList_load_blk (by rfl) 29 _ rfl rfl (by first | exact h1 | exact h2 | exact h3 | exact h4 | exact h5 | exact h7 | exact hb | exact hz) Tryd.underlying29 rfl (by kernel_rfl) ?_)); refine (cma (by trivial) _).mono ?_; rintro e w' ⟨rfl, hE⟩; (try replace h1 := h1.ext hE); (try replace h2 := h2.ext hE); (try replace h3 := h3.ext hE); (try replace h4 := h4.ext hE); (try replace h5 := h5.ext hE); (try replace h7 := h7.ext hE); (try replace HE := Lib.hid (HE.out.trans hE)); (try replace HE1 := Lib.hid (HE1.out.trans hE))
        clear hE xn
        go_wp2_with fail
        go_meet
        case rel => exact ⟨rfl, h1, h2, h3, h4, HE.out, HE1.out⟩
    · obtain ⟨rfl, hl⟩ := hcov rfl
      obtain rfl := hmt rfl
      go_wp2_with ((refine wpList_load_blk (by rfl) 29 _ rfl rfl (by first | exact h1 | exact h2 | exact h3 | exact h4 | exact h5 | exact h7 | exact hb | exact hz) Tryd.underlying29 rfl (by kernel_rfl) ?_)); refine (ccv _).mono ?_; rintro e w' ⟨rfl, hE⟩; (try replace h1 := h1.ext hE); (try replace h2 := h2.ext hE); (try replace h3 := h3.ext hE); (try replace h4 := h4.ext hE); (try replace h5 := h5.ext hE); (try replace h7 := h7.ext hE); (try replace HE := Lib.hid (HE.out.trans hE)); (try replace HE1 := Lib.hid (HE1.out.trans hE))
      clear hE
      have d1 : decide (e.l < f.l) = false := by simp; omega
      have y1 := h2.en_l
      have y2 := h4.en_l
      have xn := h2.en_n
      go_wp2_with ((refine wpList_load_blk (by rfl) 29 _ rfl rfl (by first | exact h1 | exact h2 | exact h3 | exact h4 | exact h5 | exact h7 | exact hb | exact hz) Tryd.underlying29 rfl (by kernel_rfl) ?_)); refine (cma (by trivial) _).mono ?_; rintro e w' ⟨rfl, hE⟩; (try replace h1 := h1.ext hE); (try replace h2 := h2.ext hE); (try replace h3 := h3.ext hE); (try replace h4 := h4.ext hE); (try replace h5 := h5.ext hE); (try replace h7 := h7.ext hE); (try replace HE := Lib.hid (HE.out.trans hE)); (try replace HE1 := Lib.hid (HE1.out.trans hE))
      clear hE xn
      go_wp2_with fail
      go_meet
      case rel => exact ⟨rfl, h1, h2, h3, h4, HE.out, HE1.out⟩
  case rest =>
    clear h1 h2 h3 h4 HE HE1 ccv cma hcov hmt
    obtain ⟨rfl, h1, h2, h3, h4, hE, hE1⟩ := hcut
    have HE := Lib.hid hE
    have HE1 := Lib.hid hE1
    clear hE hE1
    go_upto_region 9 with fail
    go_cut [135] from 104 to 135 (fun z wx => z = .bool false ∧ Blk wx w.heap.size 24 #[.slice A L.length c] ∧ Blk wx (w.heap.size + 1) 29 (enC e) ∧ Blk wx g3 24 #[.slice A2 M.length c2] ∧ Blk wx g4 29 (enC f) ∧ Ext w wx ∧ Ext W1 wx)
    case first =>
      clear hnew cft cfy
      cases o
      · clear hel hlt
        go_wp2_with fail
        (try replace hb := Blk.drew hb); (try replace hz := Blk.drew hz); (try replace hm := Blk.drew hm); (try replace h1 := Blk.drew h1); (try replace h2 := Blk.drew h2); (try replace h3 := Blk.drew h3); (try replace h4 := Blk.drew h4); (try replace h5 := Blk.drew h5); (try replace h7 := Blk.drew h7); replace HE := Lib.hid HE.out.drew
        replace HE1 := Lib.hid HE1.out.drew
        refine wp_region_seq [(0, false), (1, false), (2, false), (3, false), (4, false), (5, false), (6, false), (7, false), (8, false), (9, false), (10, false), (11, false), (12, false), (13, false), (14, false), (15, false), (16, false), (17, false), (18, false), (19, false), (20, false), (21, false), (22, false), (23, false), (24, false), (25, false), (26, false), (27, false), (28, false), (29, false), (30, false), (31, false)] Ext (by kernel_rfl) (by kernel_rfl) Ext.refl (fun _ _ _ => Ext.trans) ?_; simp only [List.map, nth_z, nth_s]
        (try simp only [Act.put, List.setIfInBounds_toArray, List.set_cons_zero, List.set_cons_succ])
        (repeat (first | (refine seq_skip (by rfl) ?_; intro K hK; simp only [Act.put, List.setIfInBounds_toArray, List.set_cons_zero, List.set_cons_succ]; refine hK _ ?_; clear hK K) | (refine seq_skipc (by rfl) ?_; intro K hK; simp only [Act.put, List.setIfInBounds_toArray, List.set_cons_zero, List.set_cons_succ]; refine hK _ ?_; clear hK K) | (refine seq_read (by rfl) (by rfl) ?_; intro K hK; go_big_quiet_op; first | go_big_quiet_on | (refine ⟨_, fun _ _ => rfl, ?_⟩; go_big_quiet_on))))
        refine seq_done ?_
        go_wp2_with fail
        go_meet
        case rel => exact ⟨rfl, h1, h2, h3, h4, HE.out, HE1.out⟩
      · obtain ⟨b, off, rfl, e1⟩ := hel A2 c2 _ (hrw2 _ HE1.out) (by trivial)
        obtain ⟨hi, hy⟩ := hlt (by trivial)
        clear hel hlt
        have hnq : ∀ w, (binOp .neq 29 (.agg (enC f)) (.agg (enC f))).run Tryd.prog w = .ok (.bool false) w := fun w => (neq_en w f f).trans (by simp)
        have d1 : decide ((i : Int) < 0) = false := by simp
        have d2 : decide (M.length ≤ i) = false := by simp; omega
        have d3 : decide ((y : Int) < 0) = false := by simp
        have d4 : decide (3 < (y : Int)) = false := by simp; omega
        have hiz : (i : Int) < (M.length : Int) := by omega
        have hyz : (y : Int) < 4 := by omega
        go_wp2_with fail
        (try replace hb := Blk.drew hb); (try replace hz := Blk.drew hz); (try replace hm := Blk.drew hm); (try replace h1 := Blk.drew h1); (try replace h2 := Blk.drew h2); (try replace h3 := Blk.drew h3); (try replace h4 := Blk.drew h4); (try replace h5 := Blk.drew h5); (try replace h7 := Blk.drew h7); replace HE := Lib.hid HE.out.drew
        replace HE1 := Lib.hid HE1.out.drew
        refine wp_region_seq [(0, false), (1, false), (2, false), (3, false), (4, false), (5, false), (6, false), (7, false), (8, false), (9, false), (10, false), (11, false), (12, false), (13, false), (14, false), (15, false), (16, false), (17, false), (18, false), (19, false), (20, false), (21, false), (22, false), (23, false), (24, false), (25, false), (26, false), (27, false), (28, false), (29, false), (30, false), (31, false)] Ext (by kernel_rfl) (by kernel_rfl) Ext.refl (fun _ _ _ => Ext.trans) ?_; simp only [List.map, nth_z, nth_s]
        (try simp only [Act.put, List.setIfInBounds_toArray, List.set_cons_zero, List.set_cons_succ])
        (repeat (first | (refine seq_skip (by rfl) ?_; intro K hK; simp only [Act.put, List.setIfInBounds_toArray, List.set_cons_zero, List.set_cons_succ]; refine hK _ ?_; clear hK K) | (refine seq_skipc (by rfl) ?_; intro K hK; simp only [Act.put, List.setIfInBounds_toArray, List.set_cons_zero, List.set_cons_succ]; refine hK _ ?_; clear hK K) | (refine seq_read (by rfl) (by rfl) ?_; intro K hK; go_big_quiet_op; first | go_big_quiet_on | (refine ⟨_, fun _ _ => rfl, ?_⟩; go_big_quiet_on))))
        refine seq_value (.slice (some ⟨b, off, none⟩) M.length c2) (by rfl) (fun x hx => by have hq := ext_cell hx ((h3.cell 0).trans rfl); simp [go_sem, execOp, Act.eval, hq]) ?_; intro K hK; simp only [Act.put, List.setIfInBounds_toArray, List.set_cons_zero, List.set_cons_succ]; refine hK _ ?_; clear hK K
        (repeat (first | (refine seq_skip (by rfl) ?_; intro K hK; simp only [Act.put, List.setIfInBounds_toArray, List.set_cons_zero, List.set_cons_succ]; refine hK _ ?_; clear hK K) | (refine seq_skipc (by rfl) ?_; intro K hK; simp only [Act.put, List.setIfInBounds_toArray, List.set_cons_zero, List.set_cons_succ]; refine hK _ ?_; clear hK K) | (refine seq_read (by rfl) (by rfl) ?_; intro K hK; go_big_quiet_op; first | go_big_quiet_on | (refine ⟨_, fun _ _ => rfl, ?_⟩; go_big_quiet_on))))
        refine seq_value (.slice (some ⟨b, off, none⟩) M.length c2) (by rfl) (fun x hx => by have hq := ext_cell hx ((h3.cell 0).trans rfl); simp [go_sem, execOp, Act.eval, hq]) ?_; intro K hK; simp only [Act.put, List.setIfInBounds_toArray, List.set_cons_zero, List.set_cons_succ]; refine hK _ ?_; clear hK K
        (repeat (first | (refine seq_skip (by rfl) ?_; intro K hK; simp only [Act.put, List.setIfInBounds_toArray, List.set_cons_zero, List.set_cons_succ]; refine hK _ ?_; clear hK K) | (refine seq_skipc (by rfl) ?_; intro K hK; simp only [Act.put, List.setIfInBounds_toArray, List.set_cons_zero, List.set_cons_succ]; refine hK _ ?_; clear hK K) | (refine seq_read (by rfl) (by rfl) ?_; intro K hK; go_big_quiet_op; first | go_big_quiet_on | (refine ⟨_, fun _ _ => rfl, ?_⟩; go_big_quiet_on))))
        refine seq_load_rng rfl rfl ((fun x hx => rgx_ext hx e1)) rfl Tryd.underlying29 (en_info _) (by rfl) ?_; intro K hK; simp only [Act.put, List.setIfInBounds_toArray, List.set_cons_zero, List.set_cons_succ]; refine hK _ ?_; clear hK K
        (repeat (first | (refine seq_skip (by rfl) ?_; intro K hK; simp only [Act.put, List.setIfInBounds_toArray, List.set_cons_zero, List.set_cons_succ]; refine hK _ ?_; clear hK K) | (refine seq_skipc (by rfl) ?_; intro K hK; simp only [Act.put, List.setIfInBounds_toArray, List.set_cons_zero, List.set_cons_succ]; refine hK _ ?_; clear hK K) | (refine seq_read (by rfl) (by rfl) ?_; intro K hK; go_big_quiet_op; first | go_big_quiet_on | (refine ⟨_, fun _ _ => rfl, ?_⟩; go_big_quiet_on))))
        refine seq_load rfl rfl (fun x hx => Blk.ext (h4) hx) rfl Tryd.underlying29 (by kernel_rfl) (by rfl) ?_; intro K hK; simp only [Act.put, List.setIfInBounds_toArray, List.set_cons_zero, List.set_cons_succ]; refine hK _ ?_; clear hK K
        refine seq_cmp rfl rfl rfl (en_guard) (hnq) (by rfl) ?_; intro K hK; simp only [Act.put, List.setIfInBounds_toArray, List.set_cons_zero, List.set_cons_succ]; refine hK _ ?_; clear hK K
        (repeat (first | (refine seq_skip (by rfl) ?_; intro K hK; simp only [Act.put, List.setIfInBounds_toArray, List.set_cons_zero, List.set_cons_succ]; refine hK _ ?_; clear hK K) | (refine seq_skipc (by rfl) ?_; intro K hK; simp only [Act.put, List.setIfInBounds_toArray, List.set_cons_zero, List.set_cons_succ]; refine hK _ ?_; clear hK K) | (refine seq_read (by rfl) (by rfl) ?_; intro K hK; go_big_quiet_op; first | go_big_quiet_on | (refine ⟨_, fun _ _ => rfl, ?_⟩; go_big_quiet_on))))
        refine seq_done ?_
        go_wp2_with fail
        go_meet
        case rel => exact ⟨rfl, h1, h2, h3, h4, HE.out, HE1.out⟩
    case rest =>
      clear h1 h2 h3 h4 HE HE1 hel hlt
      obtain ⟨rfl, h1, h2, h3, h4, hE, hE1⟩ := hcut
      have HE := Lib.hid hE
      have HE1 := Lib.hid hE1
      clear hE hE1
      have x2 := x1 _ h1
      go_wp2_with ((first | (refine wpList_load_blk (by rfl) 29 _ rfl rfl (by first | exact h1 | exact h2 | exact h3 | exact h4 | exact h5 | exact h7 | exact hb | exact hz) Tryd.underlying29 rfl (by kernel_rfl) ?_) | (refine wpList_load_blk (by rfl) 24 _ rfl rfl (by first | exact h1 | exact h2 | exact h3 | exact h4 | exact h5 | exact h7 | exact hb | exact hz) Tryd.underlying24 rfl (by kernel_rfl) ?_))); refine (cft _ (hrow _ HE.out) (hT.ext HE.out)).mono ?_; rintro e w' ⟨rfl, hE⟩; (try replace h1 := h1.ext hE); (try replace h2 := h2.ext hE); (try replace h3 := h3.ext hE); (try replace h4 := h4.ext hE); (try replace h5 := h5.ext hE); (try replace h7 := h7.ext hE); (try replace HE := Lib.hid (HE.out.trans hE)); (try replace HE1 := Lib.hid (HE1.out.trans hE))
      clear hE cft x2
      have h5 := Blk.new w' 29 (enC fL)
      have hE := (Ext.refl w').alloc (.cells (enC fL) 29)
      (try replace h1 := h1.ext hE); (try replace h2 := h2.ext hE); (try replace h3 := h3.ext hE); (try replace h4 := h4.ext hE); (try replace h5 := h5.ext hE); (try replace h7 := h7.ext hE); (try replace HE := Lib.hid (HE.out.trans hE)); (try replace HE1 := Lib.hid (HE1.out.trans hE))
      clear hE
      go_upto_region 12 with (first | (refine wpList_store_new rfl 29 _ _ rfl (enC _) _ _ rfl rfl (en_info _) (by simp [enC_size]) (enC_one _) ?_))
      generalize w'.heap.size = g5 at *
      generalize w'.alloc (.cells (enC fL) 29) = W3 at *
      have x3 : W3.cell? ⟨g3, 0, none⟩ = some (.slice A2 M.length c2) := (h3.cell 0).trans rfl
      go_wp2_with ((first | (refine wpList_load_blk (by rfl) 29 _ rfl rfl (by first | exact h1 | exact h2 | exact h3 | exact h4 | exact h5 | exact h7 | exact hb | exact hz) Tryd.underlying29 rfl (by kernel_rfl) ?_) | (refine wpList_load_blk (by rfl) 24 _ rfl rfl (by first | exact h1 | exact h2 | exact h3 | exact h4 | exact h5 | exact h7 | exact hb | exact hz) Tryd.underlying24 rfl (by kernel_rfl) ?_))); refine (cfy A2 c2 _ (hrw2 _ HE1.out) (hT.ext HE.out)).mono ?_; rintro e w' ⟨rfl, hE⟩; (try replace h1 := h1.ext hE); (try replace h2 := h2.ext hE); (try replace h3 := h3.ext hE); (try replace h4 := h4.ext hE); (try replace h5 := h5.ext hE); (try replace h7 := h7.ext hE); (try replace HE := Lib.hid (HE.out.trans hE)); (try replace HE1 := Lib.hid (HE1.out.trans hE))
      clear hE cfy x3
      have h7 := Blk.new w' 29 (enC fM)
      have hE := (Ext.refl w').alloc (.cells (enC fM) 29)
      (try replace h1 := h1.ext hE); (try replace h2 := h2.ext hE); (try replace h3 := h3.ext hE); (try replace h4 := h4.ext hE); (try replace h5 := h5.ext hE); (try replace h7 := h7.ext hE); (try replace HE := Lib.hid (HE.out.trans hE)); (try replace HE1 := Lib.hid (HE1.out.trans hE))
      clear hE
      go_upto_region 13 with (first | (refine wpList_store_new rfl 29 _ _ rfl (enC _) _ _ rfl rfl (en_info _) (by simp [enC_size]) (enC_one _) ?_))
      generalize w'.heap.size = g7 at *
      generalize w'.alloc (.cells (enC fM) 29) = W4 at *
      cases oL
      · cases oM
        · skip
          go_wp2_with (refine wpList_load_blk (by rfl) 29 _ rfl rfl (by first | exact h1 | exact h2 | exact h3 | exact h4 | exact h5 | exact h7 | exact hb | exact hz) Tryd.underlying29 rfl (by kernel_rfl) ?_)
          go_ret
          exact ⟨rfl, HE.out⟩
        · obtain rfl := hnew (by trivial) (by trivial)
          have hq : ∀ w, (binOp .eql 29 (.agg (enC fM)) (.agg (enC fM))).run Tryd.prog w = .ok (.bool true) w := fun w => (eql_en w fM fM).trans (by simp)
          have hg := en_guard
          go_wp2_with (refine wpList_load_blk (by rfl) 29 _ rfl rfl (by first | exact h1 | exact h2 | exact h3 | exact h4 | exact h5 | exact h7 | exact hb | exact hz) Tryd.underlying29 rfl (by kernel_rfl) ?_)
          go_ret
          exact ⟨rfl, HE.out⟩
      · skip
        go_wp2_with (refine wpList_load_blk (by rfl) 29 _ rfl rfl (by first | exact h1 | exact h2 | exact h3 | exact h4 | exact h5 | exact h7 | exact hb | exact hz) Tryd.underlying29 rfl (by kernel_rfl) ?_)
        go_ret
        exact ⟨rfl, HE.out⟩
end Go.Proofs.YtdbflmceomnmlaaDoor
