/- AdvAgrees. -/
import Derived.Test.YtlhoedpencmikaaGreatDoorGadc
import Derived.Test.YtlhoedpencmikaaGreatDoorRhartb
namespace Go.Proofs.YtlhoedpencmikaaGreatDoor
open Go.ChangeShapes Go.WideShapes Go.ChangeAt Go.RowKit
set_option linter.unusedVariables false
set_option linter.unusedSimpArgs false
set_option maxRecDepth 100000

attribute [local irreducible] World.setRow World.alloc Blk
set_option maxHeartbeats 8000000 in
theorem AdvAgrees_w (C : AdvC) (caw : Awk17) (A : Option Addr) (h : Hr) (c S : Nat) (B : Option Addr) (M : List (Nat × Nat)) (d a n : Nat) (i y : Int) (k : Nat) (hok : h.ok) (hS : S < 18446744073709551616) (hC : IsCells M) (a1 : a < 18446744073709551616) (n1 : n < 256) (i1 : -9223372036854775808 ≤ i ∧ i ≤ 9223372036854775807) (y1 : -9223372036854775808 ≤ y ∧ y ≤ 9223372036854775807) (k1 : k < 18446744073709551616) (w : World) (hr : RowV KS w A h.L c) (hm : RowL w B M d) (hT : Layh w) :
    Calls Tryz.prog 4 #[.agg (hrC ⟨A, c, h⟩), .agg #[.int .u64 (S : Int), .slice B M.length d], .int .u64 (a : Int), .int .u8 (n : Int), .int .i64 i, .int .i64 y, .int .u64 (k : Int)] w fun r w' => r = .returned (.bool true) ∧ Ext w w' := by
  have h1 : Blk ((w.alloc (.cells (hrC ⟨A, c, h⟩) 29)).alloc (.cells #[.int .u64 (S : Int), .slice B M.length d] 32)) w.heap.size 29 (hrC ⟨A, c, h⟩) := (Blk.new w _ _).alloc _
  have h2 : Blk ((w.alloc (.cells (hrC ⟨A, c, h⟩) 29)).alloc (.cells #[.int .u64 (S : Int), .slice B M.length d] 32)) (w.heap.size + 1) 32 #[.int .u64 (S : Int), .slice B M.length d] := blk_at (by simp)
  have HE := Lib.hid (((Ext.refl w).alloc (.cells (hrC ⟨A, c, h⟩) 29)).alloc (.cells #[.int .u64 (S : Int), .slice B M.length d] 32))
  have hrow : ∀ W : World, Ext w W → RowV KS W A h.L c := fun W e => hr.ext e
  have hmm : ∀ W : World, Ext w W → RowL W B M d := fun W e => hm.ext e
  have hTE : ∀ W : World, Ext w W → Layh W := fun W e => hT.ext e
  have cft := fun W p q => fits17_c A h c S B M d hS hC W p q
  cases hF : fitH h S M
  · skip
    go_enter Tryz.func4, Tryz.ntmps4
    go_wp2_with (fail); refine (caw _ (hTE _ HE.out)).mono ?_; rintro e w' ⟨rfl, hE⟩; (try replace hm := hm.ext hE); (try replace h1 := h1.ext hE); (try replace h2 := h2.ext hE); (try replace h4 := h4.ext hE); (try replace h5 := h5.ext hE); (try replace h6 := h6.ext hE); (try replace h7 := h7.ext hE); (try replace h8 := h8.ext hE); (try replace k1 := k1.ext hE); (try replace hN := hN.ext hE); (try replace HE := Lib.hid (HE.out.trans hE)); (try replace r0 := r0.ext hE); (try replace r1 := r1.ext hE); (try replace r2 := r2.ext hE); (try replace r3 := r3.ext hE); (try replace r4 := r4.ext hE); (try replace r5 := r5.ext hE); (try replace r6 := r6.ext hE); clear hE
    go_wp2_with ((first | (refine wpList_load_blk (by rfl) 29 _ rfl rfl h1 Tryz.underlying29 rfl (by kernel_rfl) ?_) | (refine wpList_load_blk (by rfl) 32 _ rfl rfl h2 Tryz.underlying32 rfl (by kernel_rfl) ?_))); refine (cft _ (hrow _ HE.out) (hmm _ HE.out)).mono ?_; rintro e w' ⟨rfl, hE⟩; (try replace hm := hm.ext hE); (try replace h1 := h1.ext hE); (try replace h2 := h2.ext hE); (try replace h4 := h4.ext hE); (try replace h5 := h5.ext hE); (try replace h6 := h6.ext hE); (try replace h7 := h7.ext hE); (try replace h8 := h8.ext hE); (try replace k1 := k1.ext hE); (try replace hN := hN.ext hE); (try replace HE := Lib.hid (HE.out.trans hE)); (try replace r0 := r0.ext hE); (try replace r1 := r1.ext hE); (try replace r2 := r2.ext hE); (try replace r3 := r3.ext hE); (try replace r4 := r4.ext hE); (try replace r5 := r5.ext hE); (try replace r6 := r6.ext hE); clear hE
    rw [hF]
    clear cft
    go_wp2_with (fail); refine (caw _ (hTE _ HE.out)).mono ?_; rintro e w' ⟨rfl, hE⟩; (try replace hm := hm.ext hE); (try replace h1 := h1.ext hE); (try replace h2 := h2.ext hE); (try replace h4 := h4.ext hE); (try replace h5 := h5.ext hE); (try replace h6 := h6.ext hE); (try replace h7 := h7.ext hE); (try replace h8 := h8.ext hE); (try replace k1 := k1.ext hE); (try replace hN := hN.ext hE); (try replace HE := Lib.hid (HE.out.trans hE)); (try replace r0 := r0.ext hE); (try replace r1 := r1.ext hE); (try replace r2 := r2.ext hE); (try replace r3 := r3.ext hE); (try replace r4 := r4.ext hE); (try replace r5 := r5.ext hE); (try replace r6 := r6.ext hE); clear hE
    go_wp2
    go_ret
    exact ⟨rfl, HE.out⟩
  obtain ⟨-, fr, f3, -⟩ := fit_h hF
  obtain ⟨frt, fsm, -⟩ := right_split fr
  have hMm : ∀ W : World, Ext w W → Mem W S B M d := fun W e => fit_m hF hC (hmm W e)
  rcases sm_on fsm with hmd | hmd
  · have d0 : ((h.sp.md : Int) == 0) = true := by rw [hmd]; rfl
    go_enter Tryz.func4, Tryz.ntmps4
    go_wp2_with (fail); refine (caw _ (hTE _ HE.out)).mono ?_; rintro e w' ⟨rfl, hE⟩; (try replace hm := hm.ext hE); (try replace h1 := h1.ext hE); (try replace h2 := h2.ext hE); (try replace h4 := h4.ext hE); (try replace h5 := h5.ext hE); (try replace h6 := h6.ext hE); (try replace h7 := h7.ext hE); (try replace h8 := h8.ext hE); (try replace k1 := k1.ext hE); (try replace hN := hN.ext hE); (try replace HE := Lib.hid (HE.out.trans hE)); (try replace r0 := r0.ext hE); (try replace r1 := r1.ext hE); (try replace r2 := r2.ext hE); (try replace r3 := r3.ext hE); (try replace r4 := r4.ext hE); (try replace r5 := r5.ext hE); (try replace r6 := r6.ext hE); clear hE
    go_wp2_with ((first | (refine wpList_load_blk (by rfl) 29 _ rfl rfl h1 Tryz.underlying29 rfl (by kernel_rfl) ?_) | (refine wpList_load_blk (by rfl) 32 _ rfl rfl h2 Tryz.underlying32 rfl (by kernel_rfl) ?_))); refine (cft _ (hrow _ HE.out) (hmm _ HE.out)).mono ?_; rintro e w' ⟨rfl, hE⟩; (try replace hm := hm.ext hE); (try replace h1 := h1.ext hE); (try replace h2 := h2.ext hE); (try replace h4 := h4.ext hE); (try replace h5 := h5.ext hE); (try replace h6 := h6.ext hE); (try replace h7 := h7.ext hE); (try replace h8 := h8.ext hE); (try replace k1 := k1.ext hE); (try replace hN := hN.ext hE); (try replace HE := Lib.hid (HE.out.trans hE)); (try replace r0 := r0.ext hE); (try replace r1 := r1.ext hE); (try replace r2 := r2.ext hE); (try replace r3 := r3.ext hE); (try replace r4 := r4.ext hE); (try replace r5 := r5.ext hE); (try replace r6 := r6.ext hE); clear hE
    rw [hF]
    clear cft
    have x1 := h1.hr.md
    go_wp2_with (fail); refine (caw _ (hTE _ HE.out)).mono ?_; rintro e w' ⟨rfl, hE⟩; (try replace hm := hm.ext hE); (try replace h1 := h1.ext hE); (try replace h2 := h2.ext hE); (try replace h4 := h4.ext hE); (try replace h5 := h5.ext hE); (try replace h6 := h6.ext hE); (try replace h7 := h7.ext hE); (try replace h8 := h8.ext hE); (try replace k1 := k1.ext hE); (try replace hN := hN.ext hE); (try replace HE := Lib.hid (HE.out.trans hE)); (try replace r0 := r0.ext hE); (try replace r1 := r1.ext hE); (try replace r2 := r2.ext hE); (try replace r3 := r3.ext hE); (try replace r4 := r4.ext hE); (try replace r5 := r5.ext hE); (try replace r6 := r6.ext hE); clear hE
    go_wp2
    go_ret
    exact ⟨rfl, HE.out⟩
  have d0 : ((h.sp.md : Int) == 0) = false := by rw [hmd]; rfl
  have crg := fun W p q => ragrees16_c A h c S B M d frt (sm_fits fsm).2.2 W p q
  cases hag : agH S M h
  · skip
    go_enter Tryz.func4, Tryz.ntmps4
    go_wp2_with (fail); refine (caw _ (hTE _ HE.out)).mono ?_; rintro e w' ⟨rfl, hE⟩; (try replace hm := hm.ext hE); (try replace h1 := h1.ext hE); (try replace h2 := h2.ext hE); (try replace h4 := h4.ext hE); (try replace h5 := h5.ext hE); (try replace h6 := h6.ext hE); (try replace h7 := h7.ext hE); (try replace h8 := h8.ext hE); (try replace k1 := k1.ext hE); (try replace hN := hN.ext hE); (try replace HE := Lib.hid (HE.out.trans hE)); (try replace r0 := r0.ext hE); (try replace r1 := r1.ext hE); (try replace r2 := r2.ext hE); (try replace r3 := r3.ext hE); (try replace r4 := r4.ext hE); (try replace r5 := r5.ext hE); (try replace r6 := r6.ext hE); clear hE
    go_wp2_with ((first | (refine wpList_load_blk (by rfl) 29 _ rfl rfl h1 Tryz.underlying29 rfl (by kernel_rfl) ?_) | (refine wpList_load_blk (by rfl) 32 _ rfl rfl h2 Tryz.underlying32 rfl (by kernel_rfl) ?_))); refine (cft _ (hrow _ HE.out) (hmm _ HE.out)).mono ?_; rintro e w' ⟨rfl, hE⟩; (try replace hm := hm.ext hE); (try replace h1 := h1.ext hE); (try replace h2 := h2.ext hE); (try replace h4 := h4.ext hE); (try replace h5 := h5.ext hE); (try replace h6 := h6.ext hE); (try replace h7 := h7.ext hE); (try replace h8 := h8.ext hE); (try replace k1 := k1.ext hE); (try replace hN := hN.ext hE); (try replace HE := Lib.hid (HE.out.trans hE)); (try replace r0 := r0.ext hE); (try replace r1 := r1.ext hE); (try replace r2 := r2.ext hE); (try replace r3 := r3.ext hE); (try replace r4 := r4.ext hE); (try replace r5 := r5.ext hE); (try replace r6 := r6.ext hE); clear hE
    rw [hF]
    clear cft
    have x1 := h1.hr.md
    go_wp2_with ((first | (refine wpList_load_blk (by rfl) 29 _ rfl rfl h1 Tryz.underlying29 rfl (by kernel_rfl) ?_) | (refine wpList_load_blk (by rfl) 32 _ rfl rfl h2 Tryz.underlying32 rfl (by kernel_rfl) ?_))); refine (crg _ (hrow _ HE.out) (hMm _ HE.out)).mono ?_; rintro e w' ⟨rfl, hE⟩; (try replace hm := hm.ext hE); (try replace h1 := h1.ext hE); (try replace h2 := h2.ext hE); (try replace h4 := h4.ext hE); (try replace h5 := h5.ext hE); (try replace h6 := h6.ext hE); (try replace h7 := h7.ext hE); (try replace h8 := h8.ext hE); (try replace k1 := k1.ext hE); (try replace hN := hN.ext hE); (try replace HE := Lib.hid (HE.out.trans hE)); (try replace r0 := r0.ext hE); (try replace r1 := r1.ext hE); (try replace r2 := r2.ext hE); (try replace r3 := r3.ext hE); (try replace r4 := r4.ext hE); (try replace r5 := r5.ext hE); (try replace r6 := r6.ext hE); clear hE
    clear x1 crg
    rw [hag]
    go_wp2_with (fail); refine (caw _ (hTE _ HE.out)).mono ?_; rintro e w' ⟨rfl, hE⟩; (try replace hm := hm.ext hE); (try replace h1 := h1.ext hE); (try replace h2 := h2.ext hE); (try replace h4 := h4.ext hE); (try replace h5 := h5.ext hE); (try replace h6 := h6.ext hE); (try replace h7 := h7.ext hE); (try replace h8 := h8.ext hE); (try replace k1 := k1.ext hE); (try replace hN := hN.ext hE); (try replace HE := Lib.hid (HE.out.trans hE)); (try replace r0 := r0.ext hE); (try replace r1 := r1.ext hE); (try replace r2 := r2.ext hE); (try replace r3 := r3.ext hE); (try replace r4 := r4.ext hE); (try replace r5 := r5.ext hE); (try replace r6 := r6.ext hE); clear hE
    go_wp2
    go_ret
    exact ⟨rfl, HE.out⟩
  have hM0 := hMm w (Ext.refl _)
  have hRL := hM0.rl
  have h8 := hM0.ok.mod8
  clear hM0
  have hnk : ((n % 3 : Nat) : Int) = (n : Int) % 3 := by omega
  have cbr := fun W r m t => C.bring A h c S B M d a (n % 3) W fr hok (by omega) a1 r m (by omega) t
  have cev := fun W r t => C.evict A h c i y W fr i1 y1 r t
  have cpi := fun W => C.pick A h c y W y1
  unfold BrT at cbr
  unfold EvT at cev
  simp only [hnk] at cbr
  have s1 := br_stays fr hRL a1
  have s2 := ev_stays fr i y
  have s3 := pi_stays fr y
  have g1 := br_ag fr hRL a1 hag
  have g2 := ev_ag hag i y
  have g3 := pi_ag hag y
  have o1 := br_ok fr hok hRL a1
  have o2 := ev_ok fr hok i y
  have o3 := pi_ok fr hok y1
  have hpp := (sm_fits fsm).2.2
  have cwd := fun W m => rword_x (w := W) (S := S) (A := B) (L := M) (c := d) m k1
  have hwe := Lib.hid (br_word (h := h) (a := a) hRL h8 (k / 8))
  have hpL := pi_L h y
  generalize brM S M h a = K at *
  generalize brH S M h a = H1 at *
  generalize evH h i y = H2 at *
  generalize piH h y = H3 at *
  generalize evG h i y = G2 at *
  generalize piG y = G3 at *
  have hr3 : ∀ W : World, Ext w W → RowV KS W A H3.L c := fun W e => by rw [hpL]; exact hrow W e
  have E1 := Lib.hid s1.r
  have E2 := Lib.hid s2.r
  have E3 := Lib.hid s3.r
  have ca1 := fun A1 c1 B1 d1 W p q => ragrees16_c A1 H1 c1 S B1 K d1 (right_split s1.r).1 (by rw [s1.sp]; exact hpp) W p q
  have ca2 := fun A1 c1 W p q => ragrees16_c A1 H2 c1 S B M d (right_split s2.r).1 (by rw [s2.sp]; exact hpp) W p q
  have ca3 := fun W p q => ragrees16_c A H3 c S B M d (right_split s3.r).1 (by rw [s3.sp]; exact hpp) W p q
  rw [g1] at ca1
  rw [g2] at ca2
  rw [g3] at ca3
  have cr1 := fun A1 c1 W p q => right16_c A1 H1 c1 W o1 p q
  have cr2 := fun A1 c1 W p q => right16_c A1 H2 c1 W o2 p q
  have cr3 := fun W p q => right16_c A H3 c W o3 p q
  rw [s1.r] at cr1
  rw [s2.r] at cr2
  rw [s3.r] at cr3
  clear s1 s2 s3 g1 g2 g3 o1 o2 o3 hpp hpL E1 E2 E3 hRL h8 f3
  have cwk := fun B1 d1 W (m : Mem W S B1 K d1) => rword_x m k1
  have crm := fun B1 d1 W (m : Mem W S B1 K d1) => rright_x m
  go_enter Tryz.func4, Tryz.ntmps4
  go_wp2_with (fail); refine (caw _ (hTE _ HE.out)).mono ?_; rintro e w' ⟨rfl, hE⟩; (try replace hm := hm.ext hE); (try replace h1 := h1.ext hE); (try replace h2 := h2.ext hE); (try replace h4 := h4.ext hE); (try replace h5 := h5.ext hE); (try replace h6 := h6.ext hE); (try replace h7 := h7.ext hE); (try replace h8 := h8.ext hE); (try replace k1 := k1.ext hE); (try replace hN := hN.ext hE); (try replace HE := Lib.hid (HE.out.trans hE)); (try replace r0 := r0.ext hE); (try replace r1 := r1.ext hE); (try replace r2 := r2.ext hE); (try replace r3 := r3.ext hE); (try replace r4 := r4.ext hE); (try replace r5 := r5.ext hE); (try replace r6 := r6.ext hE); clear hE
  go_wp2_with ((first | (refine wpList_load_blk (by rfl) 29 _ rfl rfl h1 Tryz.underlying29 rfl (by kernel_rfl) ?_) | (refine wpList_load_blk (by rfl) 32 _ rfl rfl h2 Tryz.underlying32 rfl (by kernel_rfl) ?_))); refine (cft _ (hrow _ HE.out) (hmm _ HE.out)).mono ?_; rintro e w' ⟨rfl, hE⟩; (try replace hm := hm.ext hE); (try replace h1 := h1.ext hE); (try replace h2 := h2.ext hE); (try replace h4 := h4.ext hE); (try replace h5 := h5.ext hE); (try replace h6 := h6.ext hE); (try replace h7 := h7.ext hE); (try replace h8 := h8.ext hE); (try replace k1 := k1.ext hE); (try replace hN := hN.ext hE); (try replace HE := Lib.hid (HE.out.trans hE)); (try replace r0 := r0.ext hE); (try replace r1 := r1.ext hE); (try replace r2 := r2.ext hE); (try replace r3 := r3.ext hE); (try replace r4 := r4.ext hE); (try replace r5 := r5.ext hE); (try replace r6 := r6.ext hE); clear hE
  rw [hF]
  clear cft
  have x1 := h1.hr.md
  go_wp2_with ((first | (refine wpList_load_blk (by rfl) 29 _ rfl rfl h1 Tryz.underlying29 rfl (by kernel_rfl) ?_) | (refine wpList_load_blk (by rfl) 32 _ rfl rfl h2 Tryz.underlying32 rfl (by kernel_rfl) ?_))); refine (crg _ (hrow _ HE.out) (hMm _ HE.out)).mono ?_; rintro e w' ⟨rfl, hE⟩; (try replace hm := hm.ext hE); (try replace h1 := h1.ext hE); (try replace h2 := h2.ext hE); (try replace h4 := h4.ext hE); (try replace h5 := h5.ext hE); (try replace h6 := h6.ext hE); (try replace h7 := h7.ext hE); (try replace h8 := h8.ext hE); (try replace k1 := k1.ext hE); (try replace hN := hN.ext hE); (try replace HE := Lib.hid (HE.out.trans hE)); (try replace r0 := r0.ext hE); (try replace r1 := r1.ext hE); (try replace r2 := r2.ext hE); (try replace r3 := r3.ext hE); (try replace r4 := r4.ext hE); (try replace r5 := r5.ext hE); (try replace r6 := r6.ext hE); clear hE
  clear x1 crg
  rw [hag]
  go_wp2_with ((first | (refine wpList_load_blk (by rfl) 29 _ rfl rfl h1 Tryz.underlying29 rfl (by kernel_rfl) ?_) | (refine wpList_load_blk (by rfl) 32 _ rfl rfl h2 Tryz.underlying32 rfl (by kernel_rfl) ?_))); refine (cbr _ (hrow _ HE.out) (hMm _ HE.out) (hTE _ HE.out)).mono ?_; rintro e w' ⟨A1, B1, cc1, dd1, rfl, r1, hN, hE, -⟩; (try replace hm := hm.ext hE); (try replace h1 := h1.ext hE); (try replace h2 := h2.ext hE); (try replace h4 := h4.ext hE); (try replace h5 := h5.ext hE); (try replace h6 := h6.ext hE); (try replace h7 := h7.ext hE); (try replace h8 := h8.ext hE); (try replace k1 := k1.ext hE); (try replace hN := hN.ext hE); (try replace HE := Lib.hid (HE.out.trans hE)); (try replace r0 := r0.ext hE); (try replace r1 := r1.ext hE); (try replace r2 := r2.ext hE); (try replace r3 := r3.ext hE); (try replace r4 := r4.ext hE); (try replace r5 := r5.ext hE); (try replace r6 := r6.ext hE); clear hE
  clear cbr
  obtain ⟨zz1, zz2, hE, h4, h5⟩ := nh2 w' (hrC ⟨A1, cc1, H1⟩) #[.int .u64 (S : Int), .slice B1 K.length dd1]; (try replace hm := hm.ext hE); (try replace h1 := h1.ext hE); (try replace h2 := h2.ext hE); (try replace h4 := h4.ext hE); (try replace h5 := h5.ext hE); (try replace h6 := h6.ext hE); (try replace h7 := h7.ext hE); (try replace h8 := h8.ext hE); (try replace k1 := k1.ext hE); (try replace hN := hN.ext hE); (try replace HE := Lib.hid (HE.out.trans hE)); (try replace r0 := r0.ext hE); (try replace r1 := r1.ext hE); (try replace r2 := r2.ext hE); (try replace r3 := r3.ext hE); (try replace r4 := r4.ext hE); (try replace r5 := r5.ext hE); (try replace r6 := r6.ext hE); clear hE
  go_wp2_with (first | (first | (refine wpList_store_blk rfl 29 _ _ rfl rfl rfl zz1 (hr_info _) (by simp [hrC_size]) (hrC_one _) ?_) | ((refine wpList_store_blk rfl 32 _ _ rfl rfl rfl zz2 (by kernel_rfl) (by rfl) (by simp [Value.oneCell']) ?_); clear zz1 zz2; generalize (((w'.alloc (.cells #[.slice none 0 0, .int .u64 0, .int .u64 0, .int .u64 0, .int .i64 0, .bool false, .bool false, .int .i64 0] 29)).alloc (.cells #[.int .u64 0, .slice none 0 0] 32)).setRow w'.heap.size (hrC ⟨A1, cc1, H1⟩)).setRow (w'.heap.size + 1) #[.int .u64 (S : Int), .slice B1 K.length dd1] = X at *)) | (refine wpList_load_blk (by rfl) 29 _ rfl rfl h1 Tryz.underlying29 rfl (by kernel_rfl) ?_))
  generalize w'.heap.size = g4 at *
  refine (cev _ (hrow _ HE.out) (hTE _ HE.out)).mono ?_
  rintro r5 w' ⟨A2, cc2, rfl, r2, hE⟩
  (try replace hm := hm.ext hE); (try replace h1 := h1.ext hE); (try replace h2 := h2.ext hE); (try replace h4 := h4.ext hE); (try replace h5 := h5.ext hE); (try replace h6 := h6.ext hE); (try replace h7 := h7.ext hE); (try replace h8 := h8.ext hE); (try replace k1 := k1.ext hE); (try replace hN := hN.ext hE); (try replace HE := Lib.hid (HE.out.trans hE)); (try replace r0 := r0.ext hE); (try replace r1 := r1.ext hE); (try replace r2 := r2.ext hE); (try replace r3 := r3.ext hE); (try replace r4 := r4.ext hE); (try replace r5 := r5.ext hE); (try replace r6 := r6.ext hE)
  clear hE cev
  obtain ⟨zz1, hE, h6⟩ := nh1 w' (hrC ⟨A2, cc2, H2⟩); (try replace hm := hm.ext hE); (try replace h1 := h1.ext hE); (try replace h2 := h2.ext hE); (try replace h4 := h4.ext hE); (try replace h5 := h5.ext hE); (try replace h6 := h6.ext hE); (try replace h7 := h7.ext hE); (try replace h8 := h8.ext hE); (try replace k1 := k1.ext hE); (try replace hN := hN.ext hE); (try replace HE := Lib.hid (HE.out.trans hE)); (try replace r0 := r0.ext hE); (try replace r1 := r1.ext hE); (try replace r2 := r2.ext hE); (try replace r3 := r3.ext hE); (try replace r4 := r4.ext hE); (try replace r5 := r5.ext hE); (try replace r6 := r6.ext hE); clear hE
  go_wp2_with (first | ((refine wpList_store_blk rfl 29 _ _ rfl rfl rfl zz1 (hr_info _) (by simp [hrC_size]) (hrC_one _) ?_); clear zz1; generalize (w'.alloc (.cells #[.slice none 0 0, .int .u64 0, .int .u64 0, .int .u64 0, .int .i64 0, .bool false, .bool false, .int .i64 0] 29)).setRow w'.heap.size (hrC ⟨A2, cc2, H2⟩) = X at *) | (refine wpList_load_blk (by rfl) 29 _ rfl rfl h1 Tryz.underlying29 rfl (by kernel_rfl) ?_))
  generalize w'.heap.size = g6 at *
  refine (cpi _).mono ?_
  rintro r5 w' ⟨rfl, hE⟩
  (try replace hm := hm.ext hE); (try replace h1 := h1.ext hE); (try replace h2 := h2.ext hE); (try replace h4 := h4.ext hE); (try replace h5 := h5.ext hE); (try replace h6 := h6.ext hE); (try replace h7 := h7.ext hE); (try replace h8 := h8.ext hE); (try replace k1 := k1.ext hE); (try replace hN := hN.ext hE); (try replace HE := Lib.hid (HE.out.trans hE)); (try replace r0 := r0.ext hE); (try replace r1 := r1.ext hE); (try replace r2 := r2.ext hE); (try replace r3 := r3.ext hE); (try replace r4 := r4.ext hE); (try replace r5 := r5.ext hE); (try replace r6 := r6.ext hE)
  clear hE cpi
  obtain ⟨zz1, hE, h7⟩ := nh1 w' (hrC ⟨A, c, H3⟩); (try replace hm := hm.ext hE); (try replace h1 := h1.ext hE); (try replace h2 := h2.ext hE); (try replace h4 := h4.ext hE); (try replace h5 := h5.ext hE); (try replace h6 := h6.ext hE); (try replace h7 := h7.ext hE); (try replace h8 := h8.ext hE); (try replace k1 := k1.ext hE); (try replace hN := hN.ext hE); (try replace HE := Lib.hid (HE.out.trans hE)); (try replace r0 := r0.ext hE); (try replace r1 := r1.ext hE); (try replace r2 := r2.ext hE); (try replace r3 := r3.ext hE); (try replace r4 := r4.ext hE); (try replace r5 := r5.ext hE); (try replace r6 := r6.ext hE); clear hE
  go_wp2_with (first | ((refine wpList_store_blk rfl 29 _ _ rfl rfl rfl zz1 (hr_info _) (by simp [hrC_size]) (hrC_one _) ?_); clear zz1; generalize (w'.alloc (.cells #[.slice none 0 0, .int .u64 0, .int .u64 0, .int .u64 0, .int .i64 0, .bool false, .bool false, .int .i64 0] 29)).setRow w'.heap.size (hrC ⟨A, c, H3⟩) = X at *) | (refine wpList_load_blk (by rfl) 32 _ rfl rfl h2 Tryz.underlying32 rfl (by kernel_rfl) ?_))
  generalize w'.heap.size = g7 at *
  refine (cwd _ (hMm _ HE.out)).mono ?_
  rintro r5 w' ⟨rfl, hE⟩
  (try replace hm := hm.ext hE); (try replace h1 := h1.ext hE); (try replace h2 := h2.ext hE); (try replace h4 := h4.ext hE); (try replace h5 := h5.ext hE); (try replace h6 := h6.ext hE); (try replace h7 := h7.ext hE); (try replace h8 := h8.ext hE); (try replace k1 := k1.ext hE); (try replace hN := hN.ext hE); (try replace HE := Lib.hid (HE.out.trans hE)); (try replace r0 := r0.ext hE); (try replace r1 := r1.ext hE); (try replace r2 := r2.ext hE); (try replace r3 := r3.ext hE); (try replace r4 := r4.ext hE); (try replace r5 := r5.ext hE); (try replace r6 := r6.ext hE)
  clear hE cwd h1
  go_wp2_with ((first | (refine wpList_load_blk (by rfl) 29 _ rfl rfl h4 Tryz.underlying29 rfl (by kernel_rfl) ?_) | (refine wpList_load_blk (by rfl) 32 _ rfl rfl h5 Tryz.underlying32 rfl (by kernel_rfl) ?_))); refine (ca1 _ _ _ _ _ r1 hN).mono ?_; rintro e w' ⟨rfl, hE⟩; (try replace hm := hm.ext hE); (try replace h1 := h1.ext hE); (try replace h2 := h2.ext hE); (try replace h4 := h4.ext hE); (try replace h5 := h5.ext hE); (try replace h6 := h6.ext hE); (try replace h7 := h7.ext hE); (try replace h8 := h8.ext hE); (try replace k1 := k1.ext hE); (try replace hN := hN.ext hE); (try replace HE := Lib.hid (HE.out.trans hE)); (try replace r0 := r0.ext hE); (try replace r1 := r1.ext hE); (try replace r2 := r2.ext hE); (try replace r3 := r3.ext hE); (try replace r4 := r4.ext hE); (try replace r5 := r5.ext hE); (try replace r6 := r6.ext hE); clear hE
  clear ca1
  go_wp2_with ((first | (refine wpList_load_blk (by rfl) 29 _ rfl rfl h6 Tryz.underlying29 rfl (by kernel_rfl) ?_) | (refine wpList_load_blk (by rfl) 32 _ rfl rfl h2 Tryz.underlying32 rfl (by kernel_rfl) ?_))); refine (ca2 _ _ _ r2 (hMm _ HE.out)).mono ?_; rintro e w' ⟨rfl, hE⟩; (try replace hm := hm.ext hE); (try replace h1 := h1.ext hE); (try replace h2 := h2.ext hE); (try replace h4 := h4.ext hE); (try replace h5 := h5.ext hE); (try replace h6 := h6.ext hE); (try replace h7 := h7.ext hE); (try replace h8 := h8.ext hE); (try replace k1 := k1.ext hE); (try replace hN := hN.ext hE); (try replace HE := Lib.hid (HE.out.trans hE)); (try replace r0 := r0.ext hE); (try replace r1 := r1.ext hE); (try replace r2 := r2.ext hE); (try replace r3 := r3.ext hE); (try replace r4 := r4.ext hE); (try replace r5 := r5.ext hE); (try replace r6 := r6.ext hE); clear hE
  clear ca2
  go_wp2_with ((first | (refine wpList_load_blk (by rfl) 29 _ rfl rfl h7 Tryz.underlying29 rfl (by kernel_rfl) ?_) | (refine wpList_load_blk (by rfl) 32 _ rfl rfl h2 Tryz.underlying32 rfl (by kernel_rfl) ?_))); refine (ca3 _ (hr3 _ HE.out) (hMm _ HE.out)).mono ?_; rintro e w' ⟨rfl, hE⟩; (try replace hm := hm.ext hE); (try replace h1 := h1.ext hE); (try replace h2 := h2.ext hE); (try replace h4 := h4.ext hE); (try replace h5 := h5.ext hE); (try replace h6 := h6.ext hE); (try replace h7 := h7.ext hE); (try replace h8 := h8.ext hE); (try replace k1 := k1.ext hE); (try replace hN := hN.ext hE); (try replace HE := Lib.hid (HE.out.trans hE)); (try replace r0 := r0.ext hE); (try replace r1 := r1.ext hE); (try replace r2 := r2.ext hE); (try replace r3 := r3.ext hE); (try replace r4 := r4.ext hE); (try replace r5 := r5.ext hE); (try replace r6 := r6.ext hE); clear hE
  clear ca3
  go_wp2_with ((refine wpList_load_blk (by rfl) 29 _ rfl rfl h4 Tryz.underlying29 rfl (by kernel_rfl) ?_)); refine (cr1 _ _ _ r1 (hTE _ HE.out).s).mono ?_; rintro e w' ⟨rfl, hE⟩; (try replace hm := hm.ext hE); (try replace h1 := h1.ext hE); (try replace h2 := h2.ext hE); (try replace h4 := h4.ext hE); (try replace h5 := h5.ext hE); (try replace h6 := h6.ext hE); (try replace h7 := h7.ext hE); (try replace h8 := h8.ext hE); (try replace k1 := k1.ext hE); (try replace hN := hN.ext hE); (try replace HE := Lib.hid (HE.out.trans hE)); (try replace r0 := r0.ext hE); (try replace r1 := r1.ext hE); (try replace r2 := r2.ext hE); (try replace r3 := r3.ext hE); (try replace r4 := r4.ext hE); (try replace r5 := r5.ext hE); (try replace r6 := r6.ext hE); clear hE
  clear cr1
  go_wp2_with ((refine wpList_load_blk (by rfl) 29 _ rfl rfl h6 Tryz.underlying29 rfl (by kernel_rfl) ?_)); refine (cr2 _ _ _ r2 (hTE _ HE.out).s).mono ?_; rintro e w' ⟨rfl, hE⟩; (try replace hm := hm.ext hE); (try replace h1 := h1.ext hE); (try replace h2 := h2.ext hE); (try replace h4 := h4.ext hE); (try replace h5 := h5.ext hE); (try replace h6 := h6.ext hE); (try replace h7 := h7.ext hE); (try replace h8 := h8.ext hE); (try replace k1 := k1.ext hE); (try replace hN := hN.ext hE); (try replace HE := Lib.hid (HE.out.trans hE)); (try replace r0 := r0.ext hE); (try replace r1 := r1.ext hE); (try replace r2 := r2.ext hE); (try replace r3 := r3.ext hE); (try replace r4 := r4.ext hE); (try replace r5 := r5.ext hE); (try replace r6 := r6.ext hE); clear hE
  clear cr2
  go_wp2_with ((refine wpList_load_blk (by rfl) 29 _ rfl rfl h7 Tryz.underlying29 rfl (by kernel_rfl) ?_)); refine (cr3 _ (hr3 _ HE.out) (hTE _ HE.out).s).mono ?_; rintro e w' ⟨rfl, hE⟩; (try replace hm := hm.ext hE); (try replace h1 := h1.ext hE); (try replace h2 := h2.ext hE); (try replace h4 := h4.ext hE); (try replace h5 := h5.ext hE); (try replace h6 := h6.ext hE); (try replace h7 := h7.ext hE); (try replace h8 := h8.ext hE); (try replace k1 := k1.ext hE); (try replace hN := hN.ext hE); (try replace HE := Lib.hid (HE.out.trans hE)); (try replace r0 := r0.ext hE); (try replace r1 := r1.ext hE); (try replace r2 := r2.ext hE); (try replace r3 := r3.ext hE); (try replace r4 := r4.ext hE); (try replace r5 := r5.ext hE); (try replace r6 := r6.ext hE); clear hE
  clear cr3
  go_wp2_with ((refine wpList_load_blk (by rfl) 32 _ rfl rfl h5 Tryz.underlying32 rfl (by kernel_rfl) ?_)); refine (crm _ _ _ hN).mono ?_; rintro e w' ⟨rfl, hE⟩; (try replace hm := hm.ext hE); (try replace h1 := h1.ext hE); (try replace h2 := h2.ext hE); (try replace h4 := h4.ext hE); (try replace h5 := h5.ext hE); (try replace h6 := h6.ext hE); (try replace h7 := h7.ext hE); (try replace h8 := h8.ext hE); (try replace k1 := k1.ext hE); (try replace hN := hN.ext hE); (try replace HE := Lib.hid (HE.out.trans hE)); (try replace r0 := r0.ext hE); (try replace r1 := r1.ext hE); (try replace r2 := r2.ext hE); (try replace r3 := r3.ext hE); (try replace r4 := r4.ext hE); (try replace r5 := r5.ext hE); (try replace r6 := r6.ext hE); clear hE
  clear crm
  have hNl := hN.rl
  have hMl := (hMm w (Ext.refl _)).rl
  go_wp2_with ((refine wpList_load_blk (by rfl) 32 _ rfl rfl h5 Tryz.underlying32 rfl (by kernel_rfl) ?_)); refine (cwk _ _ _ hN).mono ?_; rintro e w' ⟨rfl, hE⟩; (try replace hm := hm.ext hE); (try replace h1 := h1.ext hE); (try replace h2 := h2.ext hE); (try replace h4 := h4.ext hE); (try replace h5 := h5.ext hE); (try replace h6 := h6.ext hE); (try replace h7 := h7.ext hE); (try replace h8 := h8.ext hE); (try replace k1 := k1.ext hE); (try replace hN := hN.ext hE); (try replace HE := Lib.hid (HE.out.trans hE)); (try replace r0 := r0.ext hE); (try replace r1 := r1.ext hE); (try replace r2 := r2.ext hE); (try replace r3 := r3.ext hE); (try replace r4 := r4.ext hE); (try replace r5 := r5.ext hE); (try replace r6 := r6.ext hE); clear hE
  clear cwk
  have q1 := wordL_lt hNl (k / 8)
  have q2 := wordL_lt hMl (k / 8)
  generalize wordL K (k / 8) = W1 at *
  generalize wordL M (k / 8) = W2 at *
  obtain ⟨Z, ob1⟩ : ∃ Z : Int, bits .or .u64 (W2 : Int) 64 = Z := ⟨_, rfl⟩
  have ob2 : bits .or .u64 (W1 : Int) 64 = Z := by
    rw [← ob1]
    show bits .or .u64 (W1 : Int) ((64 : Nat) : Int) = bits .or .u64 (W2 : Int) ((64 : Nat) : Int)
    rw [or_u64 q1 (by decide), or_u64 q2 (by decide), hwe.out]
  go_wp2
  go_ret
  exact ⟨rfl, HE.out⟩
end Go.Proofs.YtlhoedpencmikaaGreatDoor
