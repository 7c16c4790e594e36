/- HartFlat. -/
import Derived.Test.YtledkljbegpdpaaGreatDoorLaw16b
namespace Go.Proofs.YtledkljbegpdpaaGreatDoor
open Go.ChangeShapes Go.WideShapes Go.ChangeAt Go.RowKit
set_option linter.unusedVariables false
set_option linter.unusedSimpArgs false
set_option maxRecDepth 100000

theorem args6 {A : Act} {x y z t p q : Operand} {u v r s m n : Value} (h1 : A.eval x = u) (h2 : A.eval y = v) (h3 : A.eval z = r) (h4 : A.eval t = s) (h5 : A.eval p = m) (h6 : A.eval q = n) : [x, y, z, t, p, q].map A.eval = [u, v, r, s, m, n] := by simp [h1, h2, h3, h4, h5, h6]
set_option maxHeartbeats 8000000 in
theorem HartFlat_w (caw : Awk) (A : Option Addr) (h : Hr) (c S : Nat) (B : Option Addr) (M : List (Nat × Nat)) (d n a z v : Nat) (hok : h.ok) (hS : S < 18446744073709551616) (hC : IsCells M) (n1 : n < 256) (a1 : a < 18446744073709551616) (z1 : z < 256) (v1 : v < 18446744073709551616) (w : World) (hr : RowV KS w A h.L c) (hm : RowL w B M d) (hT : Layh w) :
    Calls Tryz.prog 3 #[.agg (hrC ⟨A, c, h⟩), .agg #[.int .u64 (S : Int), .slice B M.length d], .int .u8 (n : Int), .int .u64 (a : Int), .int .u8 (z : Int), .int .u64 (v : Int)] w fun r w' => r = .returned (.bool true) ∧ Ext w w' := by
  have h1 : Blk ((w.alloc (.cells (hrC ⟨A, c, h⟩) 29)).alloc (.cells #[.int .u64 (S : Int), .slice B M.length d] 32)) w.heap.size 29 (hrC ⟨A, c, h⟩) := (Blk.new w _ _).alloc _
  have h2 : Blk ((w.alloc (.cells (hrC ⟨A, c, h⟩) 29)).alloc (.cells #[.int .u64 (S : Int), .slice B M.length d] 32)) (w.heap.size + 1) 32 #[.int .u64 (S : Int), .slice B M.length d] := blk_at (by simp)
  have HE := Lib.hid (((Ext.refl w).alloc (.cells (hrC ⟨A, c, h⟩) 29)).alloc (.cells #[.int .u64 (S : Int), .slice B M.length d] 32))
  have hrow : ∀ W : World, Ext w W → RowV KS W A h.L c := fun W e => hr.ext e
  have hmm : ∀ W : World, Ext w W → RowL W B M d := fun W e => hm.ext e
  have hTE : ∀ W : World, Ext w W → Layh W := fun W e => hT.ext e
  have cft := fun W p q => fits16_c A h c S B M d hS hC W p q
  cases hF : fitH h S M
  · skip
    go_enter Tryz.func3, Tryz.ntmps3
    go_wp2_with (fail); refine (caw _ (hTE _ HE.out)).mono ?_; rintro e w' ⟨rfl, hE⟩; (try replace hm := hm.ext hE); (try replace h1 := h1.ext hE); (try replace h2 := h2.ext hE); (try replace h4 := h4.ext hE); (try replace h5 := h5.ext hE); (try replace h6 := h6.ext hE); (try replace h7 := h7.ext hE); (try replace h8 := h8.ext hE); (try replace hM := hM.ext hE); (try replace HE := Lib.hid (HE.out.trans hE)); (try replace r0 := r0.ext hE); (try replace r1 := r1.ext hE); (try replace r2 := r2.ext hE); (try replace r3 := r3.ext hE); (try replace r4 := r4.ext hE); (try replace r5 := r5.ext hE); (try replace r6 := r6.ext hE); clear hE
    go_wp2_with ((first | (refine wpList_load_blk (by rfl) 29 _ rfl rfl h1 Tryz.underlying29 rfl (by kernel_rfl) ?_) | (refine wpList_load_blk (by rfl) 32 _ rfl rfl h2 Tryz.underlying32 rfl (by kernel_rfl) ?_))); refine (cft _ (hrow _ HE.out) (hmm _ HE.out)).mono ?_; rintro e w' ⟨rfl, hE⟩; (try replace hm := hm.ext hE); (try replace h1 := h1.ext hE); (try replace h2 := h2.ext hE); (try replace h4 := h4.ext hE); (try replace h5 := h5.ext hE); (try replace h6 := h6.ext hE); (try replace h7 := h7.ext hE); (try replace h8 := h8.ext hE); (try replace hM := hM.ext hE); (try replace HE := Lib.hid (HE.out.trans hE)); (try replace r0 := r0.ext hE); (try replace r1 := r1.ext hE); (try replace r2 := r2.ext hE); (try replace r3 := r3.ext hE); (try replace r4 := r4.ext hE); (try replace r5 := r5.ext hE); (try replace r6 := r6.ext hE); clear hE
    rw [hF]
    clear cft
    go_wp2_with (fail); refine (caw _ (hTE _ HE.out)).mono ?_; rintro e w' ⟨rfl, hE⟩; (try replace hm := hm.ext hE); (try replace h1 := h1.ext hE); (try replace h2 := h2.ext hE); (try replace h4 := h4.ext hE); (try replace h5 := h5.ext hE); (try replace h6 := h6.ext hE); (try replace h7 := h7.ext hE); (try replace h8 := h8.ext hE); (try replace hM := hM.ext hE); (try replace HE := Lib.hid (HE.out.trans hE)); (try replace r0 := r0.ext hE); (try replace r1 := r1.ext hE); (try replace r2 := r2.ext hE); (try replace r3 := r3.ext hE); (try replace r4 := r4.ext hE); (try replace r5 := r5.ext hE); (try replace r6 := r6.ext hE); clear hE
    go_wp2
    go_ret
    exact ⟨rfl, HE.out⟩
  obtain ⟨-, fr, f3, -⟩ := fit_h hF
  obtain ⟨frt, fsm, -⟩ := right_split fr
  have hMm : ∀ W : World, Ext w W → Mem W S B M d := fun W e => fit_m hF hC (hmm W e)
  rcases sm_on fsm with hmd | hmd
  · have d0 : ((h.sp.md : Int) == 0) = true := by rw [hmd]; rfl
    go_enter Tryz.func3, Tryz.ntmps3
    go_wp2_with (fail); refine (caw _ (hTE _ HE.out)).mono ?_; rintro e w' ⟨rfl, hE⟩; (try replace hm := hm.ext hE); (try replace h1 := h1.ext hE); (try replace h2 := h2.ext hE); (try replace h4 := h4.ext hE); (try replace h5 := h5.ext hE); (try replace h6 := h6.ext hE); (try replace h7 := h7.ext hE); (try replace h8 := h8.ext hE); (try replace hM := hM.ext hE); (try replace HE := Lib.hid (HE.out.trans hE)); (try replace r0 := r0.ext hE); (try replace r1 := r1.ext hE); (try replace r2 := r2.ext hE); (try replace r3 := r3.ext hE); (try replace r4 := r4.ext hE); (try replace r5 := r5.ext hE); (try replace r6 := r6.ext hE); clear hE
    go_wp2_with ((first | (refine wpList_load_blk (by rfl) 29 _ rfl rfl h1 Tryz.underlying29 rfl (by kernel_rfl) ?_) | (refine wpList_load_blk (by rfl) 32 _ rfl rfl h2 Tryz.underlying32 rfl (by kernel_rfl) ?_))); refine (cft _ (hrow _ HE.out) (hmm _ HE.out)).mono ?_; rintro e w' ⟨rfl, hE⟩; (try replace hm := hm.ext hE); (try replace h1 := h1.ext hE); (try replace h2 := h2.ext hE); (try replace h4 := h4.ext hE); (try replace h5 := h5.ext hE); (try replace h6 := h6.ext hE); (try replace h7 := h7.ext hE); (try replace h8 := h8.ext hE); (try replace hM := hM.ext hE); (try replace HE := Lib.hid (HE.out.trans hE)); (try replace r0 := r0.ext hE); (try replace r1 := r1.ext hE); (try replace r2 := r2.ext hE); (try replace r3 := r3.ext hE); (try replace r4 := r4.ext hE); (try replace r5 := r5.ext hE); (try replace r6 := r6.ext hE); clear hE
    rw [hF]
    clear cft
    have x1 := h1.hr.md
    go_wp2_with (fail); refine (caw _ (hTE _ HE.out)).mono ?_; rintro e w' ⟨rfl, hE⟩; (try replace hm := hm.ext hE); (try replace h1 := h1.ext hE); (try replace h2 := h2.ext hE); (try replace h4 := h4.ext hE); (try replace h5 := h5.ext hE); (try replace h6 := h6.ext hE); (try replace h7 := h7.ext hE); (try replace h8 := h8.ext hE); (try replace hM := hM.ext hE); (try replace HE := Lib.hid (HE.out.trans hE)); (try replace r0 := r0.ext hE); (try replace r1 := r1.ext hE); (try replace r2 := r2.ext hE); (try replace r3 := r3.ext hE); (try replace r4 := r4.ext hE); (try replace r5 := r5.ext hE); (try replace r6 := r6.ext hE); clear hE
    go_wp2
    go_ret
    exact ⟨rfl, HE.out⟩
  have d0 : ((h.sp.md : Int) == 0) = false := by rw [hmd]; rfl
  have crg := fun W p q => ragrees16_c A h c S B M d frt (sm_fits fsm).2.2 W p q
  cases hag : agH S M h
  · skip
    go_enter Tryz.func3, Tryz.ntmps3
    go_wp2_with (fail); refine (caw _ (hTE _ HE.out)).mono ?_; rintro e w' ⟨rfl, hE⟩; (try replace hm := hm.ext hE); (try replace h1 := h1.ext hE); (try replace h2 := h2.ext hE); (try replace h4 := h4.ext hE); (try replace h5 := h5.ext hE); (try replace h6 := h6.ext hE); (try replace h7 := h7.ext hE); (try replace h8 := h8.ext hE); (try replace hM := hM.ext hE); (try replace HE := Lib.hid (HE.out.trans hE)); (try replace r0 := r0.ext hE); (try replace r1 := r1.ext hE); (try replace r2 := r2.ext hE); (try replace r3 := r3.ext hE); (try replace r4 := r4.ext hE); (try replace r5 := r5.ext hE); (try replace r6 := r6.ext hE); clear hE
    go_wp2_with ((first | (refine wpList_load_blk (by rfl) 29 _ rfl rfl h1 Tryz.underlying29 rfl (by kernel_rfl) ?_) | (refine wpList_load_blk (by rfl) 32 _ rfl rfl h2 Tryz.underlying32 rfl (by kernel_rfl) ?_))); refine (cft _ (hrow _ HE.out) (hmm _ HE.out)).mono ?_; rintro e w' ⟨rfl, hE⟩; (try replace hm := hm.ext hE); (try replace h1 := h1.ext hE); (try replace h2 := h2.ext hE); (try replace h4 := h4.ext hE); (try replace h5 := h5.ext hE); (try replace h6 := h6.ext hE); (try replace h7 := h7.ext hE); (try replace h8 := h8.ext hE); (try replace hM := hM.ext hE); (try replace HE := Lib.hid (HE.out.trans hE)); (try replace r0 := r0.ext hE); (try replace r1 := r1.ext hE); (try replace r2 := r2.ext hE); (try replace r3 := r3.ext hE); (try replace r4 := r4.ext hE); (try replace r5 := r5.ext hE); (try replace r6 := r6.ext hE); clear hE
    rw [hF]
    clear cft
    have x1 := h1.hr.md
    go_wp2_with ((first | (refine wpList_load_blk (by rfl) 29 _ rfl rfl h1 Tryz.underlying29 rfl (by kernel_rfl) ?_) | (refine wpList_load_blk (by rfl) 32 _ rfl rfl h2 Tryz.underlying32 rfl (by kernel_rfl) ?_))); refine (crg _ (hrow _ HE.out) (hMm _ HE.out)).mono ?_; rintro e w' ⟨rfl, hE⟩; (try replace hm := hm.ext hE); (try replace h1 := h1.ext hE); (try replace h2 := h2.ext hE); (try replace h4 := h4.ext hE); (try replace h5 := h5.ext hE); (try replace h6 := h6.ext hE); (try replace h7 := h7.ext hE); (try replace h8 := h8.ext hE); (try replace hM := hM.ext hE); (try replace HE := Lib.hid (HE.out.trans hE)); (try replace r0 := r0.ext hE); (try replace r1 := r1.ext hE); (try replace r2 := r2.ext hE); (try replace r3 := r3.ext hE); (try replace r4 := r4.ext hE); (try replace r5 := r5.ext hE); (try replace r6 := r6.ext hE); clear hE
    clear x1 crg
    rw [hag]
    go_wp2_with (fail); refine (caw _ (hTE _ HE.out)).mono ?_; rintro e w' ⟨rfl, hE⟩; (try replace hm := hm.ext hE); (try replace h1 := h1.ext hE); (try replace h2 := h2.ext hE); (try replace h4 := h4.ext hE); (try replace h5 := h5.ext hE); (try replace h6 := h6.ext hE); (try replace h7 := h7.ext hE); (try replace h8 := h8.ext hE); (try replace hM := hM.ext hE); (try replace HE := Lib.hid (HE.out.trans hE)); (try replace r0 := r0.ext hE); (try replace r1 := r1.ext hE); (try replace r2 := r2.ext hE); (try replace r3 := r3.ext hE); (try replace r4 := r4.ext hE); (try replace r5 := r5.ext hE); (try replace r6 := r6.ext hE); clear hE
    go_wp2
    go_ret
    exact ⟨rfl, HE.out⟩
  have hM0 := hMm w (Ext.refl _)
  have hRL := hM0.rl
  have h8 := hM0.ok.mod8
  clear hM0
  obtain ⟨s, hs, -, cpk⟩ := pick_s (z : Int) (by omega) (by omega)
  obtain ⟨k, hk, hnk⟩ : ∃ k : Nat, k < 3 ∧ (n : Int) % 3 = (k : Int) := ⟨n % 3, by omega, by omega⟩
  have cbr := fun W => rbare16_c A h c W
  have c1 := fun W r m t => acc16_c A h c S B M d k a s v fr hok hk a1 hs v1 W r m (by omega) t
  have cac2 := fun W m t => acc16_o none (bareH h) 0 S B M d k a s v (bare_right fr) (bare_ok hok) hk a1 hs v1 W (bare_row W h) m (by omega) t
  have hR := acc_right (k := k) fr hRL h8 a1 s v
  have cg1 := fun A4 c4 B4 d4 W r m t => agrees16_c A4 (accH S M h k a s) c4 S B4 (accM S M h k a s v) d4 (right_split hR.1).1 (by rw [hR.2.1]; exact (sm_fits fsm).2.2) W r m t
  have cg2 := fun A4 c4 B4 d4 W r m => ragrees16_c A4 (accH S M h k a s) c4 S B4 (accM S M h k a s v) d4 (right_split hR.1).1 (by rw [hR.2.1]; exact (sm_fits fsm).2.2) W r m
  obtain ⟨e1, e2⟩ := flat frt hRL h8 hag hk s v (a := a)
  have e3 : k ≠ 2 → agH S (accM S M h k a s v) (accH S M h k a s) = true := fun hk2 => acc_ag fr hRL h8 a1 hag hk2 s v
  have E1 := Lib.hid e1
  have E2 := Lib.hid e2
  unfold AccT at c1
  unfold AccO at cac2
  simp only [← hnk] at c1 cac2
  have HK := Lib.hid hnk
  have HK3 := Lib.hid hk
  have E3 := Lib.hid e3
  clear hR hRL h8 hs f3 e1 e2 fr frt hnk hk e3
  generalize agH S (accM S M h k a s v) (accH S M h k a s) = G at *
  generalize accR S M (bareH h) k a s = R2 at *
  generalize accM S M (bareH h) k a s v = M2 at *
  generalize accH S M (bareH h) k a s = X2 at *
  generalize accH S M h k a s = X1 at *
  generalize accM S M h k a s v = M1 at *
  generalize accR S M h k a s = R1 at *
  generalize bareH h = b at *
  go_enter Tryz.func3, Tryz.ntmps3
  go_wp2_with (fail); refine (caw _ (hTE _ HE.out)).mono ?_; rintro e w' ⟨rfl, hE⟩; (try replace hm := hm.ext hE); (try replace h1 := h1.ext hE); (try replace h2 := h2.ext hE); (try replace h4 := h4.ext hE); (try replace h5 := h5.ext hE); (try replace h6 := h6.ext hE); (try replace h7 := h7.ext hE); (try replace h8 := h8.ext hE); (try replace hM := hM.ext hE); (try replace HE := Lib.hid (HE.out.trans hE)); (try replace r0 := r0.ext hE); (try replace r1 := r1.ext hE); (try replace r2 := r2.ext hE); (try replace r3 := r3.ext hE); (try replace r4 := r4.ext hE); (try replace r5 := r5.ext hE); (try replace r6 := r6.ext hE); clear hE
  go_wp2_with ((first | (refine wpList_load_blk (by rfl) 29 _ rfl rfl h1 Tryz.underlying29 rfl (by kernel_rfl) ?_) | (refine wpList_load_blk (by rfl) 32 _ rfl rfl h2 Tryz.underlying32 rfl (by kernel_rfl) ?_))); refine (cft _ (hrow _ HE.out) (hmm _ HE.out)).mono ?_; rintro e w' ⟨rfl, hE⟩; (try replace hm := hm.ext hE); (try replace h1 := h1.ext hE); (try replace h2 := h2.ext hE); (try replace h4 := h4.ext hE); (try replace h5 := h5.ext hE); (try replace h6 := h6.ext hE); (try replace h7 := h7.ext hE); (try replace h8 := h8.ext hE); (try replace hM := hM.ext hE); (try replace HE := Lib.hid (HE.out.trans hE)); (try replace r0 := r0.ext hE); (try replace r1 := r1.ext hE); (try replace r2 := r2.ext hE); (try replace r3 := r3.ext hE); (try replace r4 := r4.ext hE); (try replace r5 := r5.ext hE); (try replace r6 := r6.ext hE); clear hE
  rw [hF]
  clear cft
  have x1 := h1.hr.md
  go_wp2_with ((first | (refine wpList_load_blk (by rfl) 29 _ rfl rfl h1 Tryz.underlying29 rfl (by kernel_rfl) ?_) | (refine wpList_load_blk (by rfl) 32 _ rfl rfl h2 Tryz.underlying32 rfl (by kernel_rfl) ?_))); refine (crg _ (hrow _ HE.out) (hMm _ HE.out)).mono ?_; rintro e w' ⟨rfl, hE⟩; (try replace hm := hm.ext hE); (try replace h1 := h1.ext hE); (try replace h2 := h2.ext hE); (try replace h4 := h4.ext hE); (try replace h5 := h5.ext hE); (try replace h6 := h6.ext hE); (try replace h7 := h7.ext hE); (try replace h8 := h8.ext hE); (try replace hM := hM.ext hE); (try replace HE := Lib.hid (HE.out.trans hE)); (try replace r0 := r0.ext hE); (try replace r1 := r1.ext hE); (try replace r2 := r2.ext hE); (try replace r3 := r3.ext hE); (try replace r4 := r4.ext hE); (try replace r5 := r5.ext hE); (try replace r6 := r6.ext hE); clear hE
  clear x1 crg
  rw [hag]
  go_wp2_with fail
  refine (cpk _).mono ?_
  rintro r5 w' ⟨rfl, hE⟩
  (try replace hm := hm.ext hE); (try replace h1 := h1.ext hE); (try replace h2 := h2.ext hE); (try replace h4 := h4.ext hE); (try replace h5 := h5.ext hE); (try replace h6 := h6.ext hE); (try replace h7 := h7.ext hE); (try replace h8 := h8.ext hE); (try replace hM := hM.ext hE); (try replace HE := Lib.hid (HE.out.trans hE)); (try replace r0 := r0.ext hE); (try replace r1 := r1.ext hE); (try replace r2 := r2.ext hE); (try replace r3 := r3.ext hE); (try replace r4 := r4.ext hE); (try replace r5 := r5.ext hE); (try replace r6 := r6.ext hE)
  clear hE cpk
  go_wp2_with ((first | (refine wpList_load_blk (by rfl) 29 _ rfl rfl h1 Tryz.underlying29 rfl (by kernel_rfl) ?_) | (refine wpList_load_blk (by rfl) 32 _ rfl rfl h2 Tryz.underlying32 rfl (by kernel_rfl) ?_))); refine (c1 _ (hrow _ HE.out) (hMm _ HE.out) (hTE _ HE.out)).mono ?_; rintro e w' ⟨A1, B1, cc1, dd1, rfl, r1, hM, hE⟩; (try replace hm := hm.ext hE); (try replace h1 := h1.ext hE); (try replace h2 := h2.ext hE); (try replace h4 := h4.ext hE); (try replace h5 := h5.ext hE); (try replace h6 := h6.ext hE); (try replace h7 := h7.ext hE); (try replace h8 := h8.ext hE); (try replace hM := hM.ext hE); (try replace HE := Lib.hid (HE.out.trans hE)); (try replace r0 := r0.ext hE); (try replace r1 := r1.ext hE); (try replace r2 := r2.ext hE); (try replace r3 := r3.ext hE); (try replace r4 := r4.ext hE); (try replace r5 := r5.ext hE); (try replace r6 := r6.ext hE); clear hE
  clear c1
  obtain ⟨zz1, zz2, zz3, hE, h4, h5, h6⟩ := nh3 w' (hrC ⟨A1, cc1, X1⟩) #[.int .u64 (S : Int), .slice B1 M1.length dd1] (rsC R1); (try replace hm := hm.ext hE); (try replace h1 := h1.ext hE); (try replace h2 := h2.ext hE); (try replace h4 := h4.ext hE); (try replace h5 := h5.ext hE); (try replace h6 := h6.ext hE); (try replace h7 := h7.ext hE); (try replace h8 := h8.ext hE); (try replace hM := hM.ext hE); (try replace HE := Lib.hid (HE.out.trans hE)); (try replace r0 := r0.ext hE); (try replace r1 := r1.ext hE); (try replace r2 := r2.ext hE); (try replace r3 := r3.ext hE); (try replace r4 := r4.ext hE); (try replace r5 := r5.ext hE); (try replace r6 := r6.ext hE); clear hE
  go_wp2_with (first | (refine wpList_store_blk rfl 29 _ _ rfl rfl rfl zz1 (hr_info _) (by simp [hrC_size]) (hrC_one _) ?_) | (refine wpList_store_blk rfl 32 _ _ rfl rfl rfl zz2 (by kernel_rfl) (by rfl) (by simp [Value.oneCell']) ?_) | ((refine wpList_store_blk rfl 39 _ _ rfl rfl rfl zz3 (rs_info _) (by simp [rsC_size]) (rsC_one _) ?_); clear zz1 zz2 zz3; generalize (((((w'.alloc (.cells #[.slice none 0 0, .int .u64 0, .int .u64 0, .int .u64 0, .int .i64 0, .bool false, .bool false, .int .i64 0] 29)).alloc (.cells #[.int .u64 0, .slice none 0 0] 32)).alloc (.cells #[.int .u64 0, .bool false, .int .i64 0, .int .u64 0] 39)).setRow w'.heap.size (hrC ⟨A1, cc1, X1⟩)).setRow (w'.heap.size + 1) #[.int .u64 (S : Int), .slice B1 M1.length dd1]).setRow (w'.heap.size + 1 + 1) (rsC R1) = X at *))
  simp only [Act.put, List.setIfInBounds_toArray, List.set_cons_zero, List.set_cons_succ]
  generalize w'.heap.size = g4 at *
  generalize X = W1 at *
  (try replace hm := Blk.drew hm); (try replace h1 := Blk.drew h1); (try replace h2 := Blk.drew h2); (try replace h4 := Blk.drew h4); (try replace h5 := Blk.drew h5); (try replace h6 := Blk.drew h6); (try replace h7 := Blk.drew h7); (try replace h8 := Blk.drew h8); replace HE := Lib.hid HE.out.drew
  replace r1 := r1.ext (Ext.refl _).drew
  replace hM := hM.ext (Ext.refl _).drew
  have HW := HE
  have hMo : ∀ j, W1.drew.heap.size ≤ j → Out j (j + 1) B M.length := fun j hj => ((hMm _ HE.out).out (j + 1)).one hj (Nat.lt_succ_self _)
  -- GEN
  refine wp_region_puts (X := (Nat → Nat) × (Option Addr × Nat × Option Addr × Nat)) (fun x => [(some 59, .agg (hrC ⟨A, c, h⟩)), (some 60, .agg (hrC ⟨none, 0, b⟩)), (some 61, .agg #[.int .u64 (S : Int), .slice B M.length d]), (some 62, .int .i64 ((n : Int) % 3)), (some 63, .int .u64 (a : Int)), (some 64, .int .i64 (s : Int)), (some 65, .int .u64 (v : Int)), (some 66, .tuple #[.agg (hrC ⟨x.2.1, x.2.2.1, X2⟩), .agg #[.int .u64 (S : Int), .slice x.2.2.2.1 M2.length x.2.2.2.2], .agg (rsC R2)]), (some 58, .tuple #[.agg (hrC ⟨x.2.1, x.2.2.1, X2⟩), .agg #[.int .u64 (S : Int), .slice x.2.2.2.1 M2.length x.2.2.2.2], .agg (rsC R2)]), (some 67, .agg (hrC ⟨x.2.1, x.2.2.1, X2⟩)), (some 68, .agg #[.int .u64 (S : Int), .slice x.2.2.2.1 M2.length x.2.2.2.2]), (some 69, .agg (rsC R2)), (some 18, .pointer (some ⟨x.1 0, 0, none⟩)), (some 19, .pointer (some ⟨x.1 1, 0, none⟩)), (some 20, .pointer (some ⟨x.1 2, 0, none⟩)), (none, undef), (none, undef), (none, undef)]) (fun x bs w => FB W1.drew 7 (fun y w => Mem w S y.2.2.1 M2 y.2.2.2) (fun y j => Out j (j + 1) y.2.2.1 M2.length) [⟨12, 15, 29, #[.slice none 0 0, .int .u64 0, .int .u64 0, .int .u64 0, .int .i64 0, .bool false, .bool false, .int .i64 0], fun y => hrC ⟨y.1, y.2.1, X2⟩⟩, ⟨13, 16, 32, #[.int .u64 0, .slice none 0 0], fun y => #[.int .u64 (S : Int), .slice y.2.2.1 M2.length y.2.2.2]⟩, ⟨14, 17, 39, #[.int .u64 0, .bool false, .int .i64 0, .int .u64 0], fun _ => rsC R2⟩] x bs w ∧ Dep [8, 9, 10] 7 bs) (by kernel_rfl) (by kernel_rfl) (fun _ => 0, (none, 0, none, 0)) ⟨FB.start fun _ => not_yet, Dep.start _ _ _⟩ ?_ ?_
  · intro x bs wz q o hlen hk hbk hafter hFD
    obtain ⟨hF, hD⟩ := hFD
    have hlc : 7 < bs.length := by rw [hlen]; decide
    have hqn : q < 18 := by have := (List.getElem?_eq_some_iff.1 hk).1; simpa using this
    have hq : q = 0 ∨ q = 1 ∨ q = 2 ∨ q = 3 ∨ q = 4 ∨ q = 5 ∨ q = 6 ∨ q = 7 ∨ q = 8 ∨ q = 9 ∨ q = 10 ∨ q = 11 ∨ q = 12 ∨ q = 13 ∨ q = 14 ∨ q = 15 ∨ q = 16 ∨ q = 17 := by omega
    clear hqn hlen
    rcases hq with rfl | rfl | rfl | rfl | rfl | rfl | rfl | rfl | rfl | rfl | rfl | rfl | rfl | rfl | rfl | rfl | rfl | rfl
    · obtain rfl := Option.some.inj hk
      refine op_load rfl ((eval_out (by rfl)).trans rfl) (h1.ext hF.e) rfl Tryz.underlying29 (hr_info _) (next_at x rfl (by kernel_rfl) hbk rfl (fun _ _ => rfl) ⟨hF.read (by decide) (three_boxes (p := fun _ b => _ ≠ b.al ∧ _ ≠ b.st) (by simp) (by simp) (by simp)), (hD.set hlc fun hm => absurd hm (by decide))⟩)
    · obtain rfl := Option.some.inj hk
      refine op_call (cbr wz) rfl Tryz.func13 rfl rfl (args1 (eval_at (i := 0) (by kernel_rfl) rfl (hafter ⟨0, .data⟩ (by simp) rfl) (Nat.le_of_ble_eq_true rfl))) ?_
      rintro r w2 ⟨rfl, hE⟩
      exact ⟨_, rfl, (next_at x rfl (by kernel_rfl) hbk rfl (fun _ _ => rfl) ⟨(hF.read (by decide) (three_boxes (p := fun _ b => _ ≠ b.al ∧ _ ≠ b.st) (by simp) (by simp) (by simp))).ext hE (fun y hg => hg.ext hE), (hD.set hlc fun hm => absurd hm (by decide))⟩)⟩
    · obtain rfl := Option.some.inj hk
      refine op_load rfl ((eval_out (by rfl)).trans rfl) (h2.ext hF.e) rfl Tryz.underlying32 (me_info _ _ _ _) (next_at x rfl (by kernel_rfl) hbk rfl (fun _ _ => rfl) ⟨hF.read (by decide) (three_boxes (p := fun _ b => _ ≠ b.al ∧ _ ≠ b.st) (by simp) (by simp) (by simp)), (hD.set hlc fun hm => absurd hm (by decide))⟩)
    · obtain rfl := Option.some.inj hk
      refine op_read (x := .tmp 13) _ ((eval_out (by rfl)).trans rfl) (fun E he => by simp [go_sem, execOp, he]) (next_at x rfl (by kernel_rfl) hbk rfl (fun _ _ => rfl) ⟨hF.read (by decide) (three_boxes (p := fun _ b => _ ≠ b.al ∧ _ ≠ b.st) (by simp) (by simp) (by simp)), (hD.set hlc fun hm => absurd hm (by decide))⟩)
    · obtain rfl := Option.some.inj hk
      refine op_read (x := .tmp 3) _ ((eval_out (by rfl)).trans rfl) (fun E he => by simp [go_sem, execOp, he]) (next_at x rfl (by kernel_rfl) hbk rfl (fun _ _ => rfl) ⟨hF.read (by decide) (three_boxes (p := fun _ b => _ ≠ b.al ∧ _ ≠ b.st) (by simp) (by simp) (by simp)), (hD.set hlc fun hm => absurd hm (by decide))⟩)
    · obtain rfl := Option.some.inj hk
      refine op_read (x := .tmp 14) _ ((eval_out (by rfl)).trans rfl) (fun E he => by simp [go_sem, execOp, he]) (next_at x rfl (by kernel_rfl) hbk rfl (fun _ _ => rfl) ⟨hF.read (by decide) (three_boxes (p := fun _ b => _ ≠ b.al ∧ _ ≠ b.st) (by simp) (by simp) (by simp)), (hD.set hlc fun hm => absurd hm (by decide))⟩)
    · obtain rfl := Option.some.inj hk
      refine op_read (x := .tmp 5) _ ((eval_out (by rfl)).trans rfl) (fun E he => by simp [go_sem, execOp, he]) (next_at x rfl (by kernel_rfl) hbk rfl (fun _ _ => rfl) ⟨hF.read (by decide) (three_boxes (p := fun _ b => _ ≠ b.al ∧ _ ≠ b.st) (by simp) (by simp) (by simp)), (hD.set hlc fun hm => absurd hm (by decide))⟩)
    · obtain rfl := Option.some.inj hk
      refine op_call (cac2 wz (hMm wz (HW.out.trans hF.e)) (hTE wz (HW.out.trans hF.e))) rfl Tryz.func12 rfl rfl (args6 (eval_at (i := 1) (by kernel_rfl) rfl (hafter ⟨1, .data⟩ (by simp) rfl) (Nat.le_of_ble_eq_true rfl)) (eval_at (i := 2) (by kernel_rfl) rfl (hafter ⟨2, .data⟩ (by simp) rfl) (Nat.le_of_ble_eq_true rfl)) (eval_at (i := 3) (by kernel_rfl) rfl (hafter ⟨3, .data⟩ (by simp) rfl) (Nat.le_of_ble_eq_true rfl)) (eval_at (i := 4) (by kernel_rfl) rfl (hafter ⟨4, .data⟩ (by simp) rfl) (Nat.le_of_ble_eq_true rfl)) (eval_at (i := 5) (by kernel_rfl) rfl (hafter ⟨5, .data⟩ (by simp) rfl) (Nat.le_of_ble_eq_true rfl)) (eval_at (i := 6) (by kernel_rfl) rfl (hafter ⟨6, .data⟩ (by simp) rfl) (Nat.le_of_ble_eq_true rfl))) ?_
      rintro r w2 ⟨A2, B2, c2, d2, rfl, -, hM2, hE, ho2⟩
      refine ⟨_, rfl, next_at (x.1, (A2, c2, B2, d2)) rfl (by kernel_rfl) hbk rfl (hs_sets (D := [8, 9, 10]) (c := 7) ?_ hbk hD) ⟨hF.tell hbk hE hM2 (fun j j0 j1 => ho2 j (j + 1) (by omega) (hMo j j0)) (three_boxes (p := fun _ b => b.al ≠ _ ∧ b.st ≠ _) (by simp) (by simp) (by simp)), (hD.set hlc fun hm => absurd hm (by decide))⟩⟩
      intro j hj
      simp only [List.mem_cons, List.not_mem_nil, or_false, not_or] at hj
      have hv : ([(some 59, .agg (hrC ⟨A, c, h⟩)), (some 60, .agg (hrC ⟨none, 0, b⟩)), (some 61, .agg #[.int .u64 (S : Int), .slice B M.length d]), (some 62, .int .i64 ((n : Int) % 3)), (some 63, .int .u64 (a : Int)), (some 64, .int .i64 (s : Int)), (some 65, .int .u64 (v : Int)), (some 66, .tuple #[.agg (hrC ⟨A2, c2, X2⟩), .agg #[.int .u64 (S : Int), .slice B2 M2.length d2], .agg (rsC R2)]), (some 58, .tuple #[.agg (hrC ⟨A2, c2, X2⟩), .agg #[.int .u64 (S : Int), .slice B2 M2.length d2], .agg (rsC R2)]), (some 67, .agg (hrC ⟨A2, c2, X2⟩)), (some 68, .agg #[.int .u64 (S : Int), .slice B2 M2.length d2]), (some 69, .agg (rsC R2)), (some 18, .pointer (some ⟨x.1 0, 0, none⟩)), (some 19, .pointer (some ⟨x.1 1, 0, none⟩)), (some 20, .pointer (some ⟨x.1 2, 0, none⟩)), (none, undef), (none, undef), (none, undef)] : List (Option Nat × Value)) = (((([(some 59, .agg (hrC ⟨A, c, h⟩)), (some 60, .agg (hrC ⟨none, 0, b⟩)), (some 61, .agg #[.int .u64 (S : Int), .slice B M.length d]), (some 62, .int .i64 ((n : Int) % 3)), (some 63, .int .u64 (a : Int)), (some 64, .int .i64 (s : Int)), (some 65, .int .u64 (v : Int)), (some 66, .tuple #[.agg (hrC ⟨x.2.1, x.2.2.1, X2⟩), .agg #[.int .u64 (S : Int), .slice x.2.2.2.1 M2.length x.2.2.2.2], .agg (rsC R2)]), (some 58, .tuple #[.agg (hrC ⟨x.2.1, x.2.2.1, X2⟩), .agg #[.int .u64 (S : Int), .slice x.2.2.2.1 M2.length x.2.2.2.2], .agg (rsC R2)]), (some 67, .agg (hrC ⟨x.2.1, x.2.2.1, X2⟩)), (some 68, .agg #[.int .u64 (S : Int), .slice x.2.2.2.1 M2.length x.2.2.2.2]), (some 69, .agg (rsC R2)), (some 18, .pointer (some ⟨x.1 0, 0, none⟩)), (some 19, .pointer (some ⟨x.1 1, 0, none⟩)), (some 20, .pointer (some ⟨x.1 2, 0, none⟩)), (none, undef), (none, undef), (none, undef)]).set 7 (some 66, .tuple #[.agg (hrC ⟨A2, c2, X2⟩), .agg #[.int .u64 (S : Int), .slice B2 M2.length d2], .agg (rsC R2)])).set 8 (some 58, .tuple #[.agg (hrC ⟨A2, c2, X2⟩), .agg #[.int .u64 (S : Int), .slice B2 M2.length d2], .agg (rsC R2)])).set 9 (some 67, .agg (hrC ⟨A2, c2, X2⟩))).set 10 (some 68, .agg #[.int .u64 (S : Int), .slice B2 M2.length d2]) := rfl
      show ([(some 59, .agg (hrC ⟨A, c, h⟩)), (some 60, .agg (hrC ⟨none, 0, b⟩)), (some 61, .agg #[.int .u64 (S : Int), .slice B M.length d]), (some 62, .int .i64 ((n : Int) % 3)), (some 63, .int .u64 (a : Int)), (some 64, .int .i64 (s : Int)), (some 65, .int .u64 (v : Int)), (some 66, .tuple #[.agg (hrC ⟨A2, c2, X2⟩), .agg #[.int .u64 (S : Int), .slice B2 M2.length d2], .agg (rsC R2)]), (some 58, .tuple #[.agg (hrC ⟨A2, c2, X2⟩), .agg #[.int .u64 (S : Int), .slice B2 M2.length d2], .agg (rsC R2)]), (some 67, .agg (hrC ⟨A2, c2, X2⟩)), (some 68, .agg #[.int .u64 (S : Int), .slice B2 M2.length d2]), (some 69, .agg (rsC R2)), (some 18, .pointer (some ⟨x.1 0, 0, none⟩)), (some 19, .pointer (some ⟨x.1 1, 0, none⟩)), (some 20, .pointer (some ⟨x.1 2, 0, none⟩)), (none, undef), (none, undef), (none, undef)] : List (Option Nat × Value))[j]? = ([(some 59, .agg (hrC ⟨A, c, h⟩)), (some 60, .agg (hrC ⟨none, 0, b⟩)), (some 61, .agg #[.int .u64 (S : Int), .slice B M.length d]), (some 62, .int .i64 ((n : Int) % 3)), (some 63, .int .u64 (a : Int)), (some 64, .int .i64 (s : Int)), (some 65, .int .u64 (v : Int)), (some 66, .tuple #[.agg (hrC ⟨x.2.1, x.2.2.1, X2⟩), .agg #[.int .u64 (S : Int), .slice x.2.2.2.1 M2.length x.2.2.2.2], .agg (rsC R2)]), (some 58, .tuple #[.agg (hrC ⟨x.2.1, x.2.2.1, X2⟩), .agg #[.int .u64 (S : Int), .slice x.2.2.2.1 M2.length x.2.2.2.2], .agg (rsC R2)]), (some 67, .agg (hrC ⟨x.2.1, x.2.2.1, X2⟩)), (some 68, .agg #[.int .u64 (S : Int), .slice x.2.2.2.1 M2.length x.2.2.2.2]), (some 69, .agg (rsC R2)), (some 18, .pointer (some ⟨x.1 0, 0, none⟩)), (some 19, .pointer (some ⟨x.1 1, 0, none⟩)), (some 20, .pointer (some ⟨x.1 2, 0, none⟩)), (none, undef), (none, undef), (none, undef)] : List (Option Nat × Value))[j]?
      rw [hv, List.getElem?_set_ne (by omega), List.getElem?_set_ne (by omega), List.getElem?_set_ne (by omega), List.getElem?_set_ne (by omega)]
    · obtain rfl := Option.some.inj hk
      refine op_read (x := .tmp 66) _ (eval_at (i := 7) (by kernel_rfl) rfl (hafter ⟨7, .data⟩ (by simp) rfl) (Nat.le_of_ble_eq_true rfl)) (fun E he => by simp [go_sem, execOp, he]) (next_at x rfl (by kernel_rfl) hbk rfl (fun _ _ => rfl) ⟨hF.read (by decide) (three_boxes (p := fun _ b => _ ≠ b.al ∧ _ ≠ b.st) (by simp) (by simp) (by simp)), (hD.set hlc fun _ => hafter ⟨7, .data⟩ (by simp) rfl)⟩)
    · obtain rfl := Option.some.inj hk
      refine op_read (x := .tmp 58) _ (eval_at (i := 8) (by kernel_rfl) rfl (hafter ⟨8, .data⟩ (by simp) rfl) (Nat.le_of_ble_eq_true rfl)) (fun E he => by simp [go_sem, execOp, he]) (next_at x rfl (by kernel_rfl) hbk rfl (fun _ _ => rfl) ⟨hF.read (by decide) (three_boxes (p := fun _ b => _ ≠ b.al ∧ _ ≠ b.st) (by simp) (by simp) (by simp)), (hD.set hlc fun _ => hD 8 (by decide) (hafter ⟨8, .data⟩ (by simp) rfl))⟩)
    · obtain rfl := Option.some.inj hk
      refine op_read (x := .tmp 58) _ (eval_at (i := 8) (by kernel_rfl) rfl (hafter ⟨8, .data⟩ (by simp) rfl) (Nat.le_of_ble_eq_true rfl)) (fun E he => by simp [go_sem, execOp, he]) (next_at x rfl (by kernel_rfl) hbk rfl (fun _ _ => rfl) ⟨hF.read (by decide) (three_boxes (p := fun _ b => _ ≠ b.al ∧ _ ≠ b.st) (by simp) (by simp) (by simp)), (hD.set hlc fun _ => hD 8 (by decide) (hafter ⟨8, .data⟩ (by simp) rfl))⟩)
    · obtain rfl := Option.some.inj hk
      refine op_read (x := .tmp 58) _ (eval_at (i := 8) (by kernel_rfl) rfl (hafter ⟨8, .data⟩ (by simp) rfl) (Nat.le_of_ble_eq_true rfl)) (fun E he => by simp [go_sem, execOp, he]) (next_at x rfl (by kernel_rfl) hbk rfl (fun _ _ => rfl) ⟨hF.read (by decide) (three_boxes (p := fun _ b => _ ≠ b.al ∧ _ ≠ b.st) (by simp) (by simp) (by simp)), (hD.set hlc fun hm => absurd hm (by decide))⟩)
    · obtain rfl := Option.some.inj hk
      refine op_alloc #[.slice none 0 0, .int .u64 0, .int .u64 0, .int .u64 0, .int .i64 0, .bool false, .bool false, .int .i64 0] 29 (fun E => by simp [go_sem, execOp]) ?_
      exact next_at (fun j => if j = 0 then wz.heap.size else x.1 j, x.2) rfl (by kernel_rfl) hbk rfl (hs_set (k := 12) (v := (some 18, .pointer (some ⟨wz.heap.size, 0, none⟩))) rfl hbk) ⟨hF.make (i := 0) rfl hbk (by simp) (fun y hg => hg.ext ((Ext.refl _).alloc _)) (fun y hg => (hg.out (wz.heap.size + 1)).one (Nat.le_refl _) (Nat.lt_succ_self _)) (three_boxes (p := fun j b => (b.al = _ ↔ j = _) ∧ b.st ≠ _) (by simp) (by simp) (by simp)), (hD.set hlc fun hm => absurd hm (by decide))⟩
    · obtain rfl := Option.some.inj hk
      refine op_alloc #[.int .u64 0, .slice none 0 0] 32 (fun E => by simp [go_sem, execOp]) ?_
      exact next_at (fun j => if j = 1 then wz.heap.size else x.1 j, x.2) rfl (by kernel_rfl) hbk rfl (hs_set (k := 13) (v := (some 19, .pointer (some ⟨wz.heap.size, 0, none⟩))) rfl hbk) ⟨hF.make (i := 1) rfl hbk (by simp) (fun y hg => hg.ext ((Ext.refl _).alloc _)) (fun y hg => (hg.out (wz.heap.size + 1)).one (Nat.le_refl _) (Nat.lt_succ_self _)) (three_boxes (p := fun j b => (b.al = _ ↔ j = _) ∧ b.st ≠ _) (by simp) (by simp) (by simp)), (hD.set hlc fun hm => absurd hm (by decide))⟩
    · obtain rfl := Option.some.inj hk
      refine op_alloc #[.int .u64 0, .bool false, .int .i64 0, .int .u64 0] 39 (fun E => by simp [go_sem, execOp]) ?_
      exact next_at (fun j => if j = 2 then wz.heap.size else x.1 j, x.2) rfl (by kernel_rfl) hbk rfl (hs_set (k := 14) (v := (some 20, .pointer (some ⟨wz.heap.size, 0, none⟩))) rfl hbk) ⟨hF.make (i := 2) rfl hbk (by simp) (fun y hg => hg.ext ((Ext.refl _).alloc _)) (fun y hg => (hg.out (wz.heap.size + 1)).one (Nat.le_refl _) (Nat.lt_succ_self _)) (three_boxes (p := fun j b => (b.al = _ ↔ j = _) ∧ b.st ≠ _) (by simp) (by simp) (by simp)), (hD.set hlc fun hm => absurd hm (by decide))⟩
    · obtain rfl := Option.some.inj hk
      have h4 := hF.b 0 _ rfl (hafter ⟨12, .data⟩ (by simp) rfl)
      rw [if_neg (by show ¬ bs[15]? = some true; rw [hbk]; decide)] at h4
      refine op_store (g := x.1 0) (cs := hrC ⟨x.2.1, x.2.2.1, X2⟩) rfl (eval_at (i := 12) (by kernel_rfl) rfl (hafter ⟨12, .data⟩ (by simp) rfl) (Nat.le_of_ble_eq_true rfl)) (eval_at (i := 9) (by kernel_rfl) rfl (hafter ⟨9, .data⟩ (by simp) rfl) (Nat.le_of_ble_eq_true rfl)) h4.2 (hr_info _) (by simp [hrC_size]) (hrC_one _) (next_at x rfl (by kernel_rfl) hbk rfl (fun _ _ => rfl) ⟨hF.fill (i := 0) rfl hbk (hafter ⟨12, .data⟩ (by simp) rfl) (hafter ⟨7, .phase⟩ (by simp) rfl) (by simp) (fun y g cs ha hg => hg.set ha cs) (three_boxes (p := fun j b => (b.st = _ ↔ j = _) ∧ b.al ≠ _) (by simp) (by simp) (by simp)), (hD.set hlc fun hm => absurd hm (by decide))⟩)
    · obtain rfl := Option.some.inj hk
      have h4 := hF.b 1 _ rfl (hafter ⟨13, .data⟩ (by simp) rfl)
      rw [if_neg (by show ¬ bs[16]? = some true; rw [hbk]; decide)] at h4
      refine op_store (g := x.1 1) (cs := #[.int .u64 (S : Int), .slice x.2.2.2.1 M2.length x.2.2.2.2]) rfl (eval_at (i := 13) (by kernel_rfl) rfl (hafter ⟨13, .data⟩ (by simp) rfl) (Nat.le_of_ble_eq_true rfl)) (eval_at (i := 10) (by kernel_rfl) rfl (hafter ⟨10, .data⟩ (by simp) rfl) (Nat.le_of_ble_eq_true rfl)) h4.2 (me_info _ _ _ _) (rfl) (me_one _ _ _ _) (next_at x rfl (by kernel_rfl) hbk rfl (fun _ _ => rfl) ⟨hF.fill (i := 1) rfl hbk (hafter ⟨13, .data⟩ (by simp) rfl) (hafter ⟨7, .phase⟩ (by simp) rfl) (by simp) (fun y g cs ha hg => hg.set ha cs) (three_boxes (p := fun j b => (b.st = _ ↔ j = _) ∧ b.al ≠ _) (by simp) (by simp) (by simp)), (hD.set hlc fun hm => absurd hm (by decide))⟩)
    · obtain rfl := Option.some.inj hk
      have h4 := hF.b 2 _ rfl (hafter ⟨14, .data⟩ (by simp) rfl)
      rw [if_neg (by show ¬ bs[17]? = some true; rw [hbk]; decide)] at h4
      refine op_store (g := x.1 2) (cs := rsC R2) rfl (eval_at (i := 14) (by kernel_rfl) rfl (hafter ⟨14, .data⟩ (by simp) rfl) (Nat.le_of_ble_eq_true rfl)) (eval_at (i := 11) (by kernel_rfl) rfl (hafter ⟨11, .data⟩ (by simp) rfl) (Nat.le_of_ble_eq_true rfl)) h4.2 (rs_info _) (by simp [rsC_size]) (rsC_one _) (next_at x rfl (by kernel_rfl) hbk rfl (fun _ _ => rfl) ⟨hF.fill (i := 2) rfl hbk (hafter ⟨14, .data⟩ (by simp) rfl) (hafter ⟨7, .phase⟩ (by simp) rfl) (by simp) (fun y g cs ha hg => hg.set ha cs) (three_boxes (p := fun j b => (b.st = _ ↔ j = _) ∧ b.al ≠ _) (by simp) (by simp) (by simp)), (hD.set hlc fun hm => absurd hm (by decide))⟩)
  -- END
  · intro x wz hFD
    obtain ⟨hF', -⟩ := hFD
    have hE := hF'.e
    obtain ⟨a7, h7⟩ : W1.drew.heap.size ≤ x.1 1 ∧ Blk wz (x.1 1) 32 #[.int .u64 (S : Int), .slice x.2.2.2.1 M2.length x.2.2.2.2] := hF'.b 1 _ rfl rfl
    obtain ⟨a8, h8⟩ : W1.drew.heap.size ≤ x.1 2 ∧ Blk wz (x.1 2) 39 (rsC R2) := hF'.b 2 _ rfl rfl
    have hM2 : Mem wz S x.2.2.2.1 M2 x.2.2.2.2 := hF'.g rfl
    clear hF'
    simp only [List.length, List.replicate, putsB, if_true]
    obtain ⟨xn, A2, c2, B2, d2⟩ := x
    simp only at *
    generalize xn 0 = p6 at *
    generalize xn 1 = p7 at *
    generalize xn 2 = p8 at *
    (try replace hm := hm.ext hE); (try replace h1 := h1.ext hE); (try replace h2 := h2.ext hE); (try replace h4 := h4.ext hE); (try replace h5 := h5.ext hE); (try replace h6 := h6.ext hE); (try replace h7 := h7.ext hE); (try replace h8 := h8.ext hE); (try replace hM := hM.ext hE); (try replace HE := Lib.hid (HE.out.trans hE)); (try replace r0 := r0.ext hE); (try replace r1 := r1.ext hE); (try replace r2 := r2.ext hE); (try replace r3 := r3.ext hE); (try replace r4 := r4.ext hE); (try replace r5 := r5.ext hE); (try replace r6 := r6.ext hE)
    clear xn hE HW hMo cac2 cbr a7 a8
    have q1 : ∀ w, (binOp .eql 39 (.agg (rsC R1)) (.agg (rsC R2))).run Tryz.prog w = .ok (.bool true) w := fun w => by rw [E1.out]; exact run_b (eql_rs w _ _) (dec_same _)
    go_upto_region 7 with fail
    simp only [Act.put, List.setIfInBounds_toArray, List.set_cons_zero, List.set_cons_succ]
    go_wp2_with (first | (refine wpList_load_blk (by rfl) 39 _ rfl rfl h6 Tryz.underlying39 rfl (by kernel_rfl) ?_) | (refine wpList_load_blk (by rfl) 39 _ rfl rfl h8 Tryz.underlying39 rfl (by kernel_rfl) ?_) | (refine wpList_cmp (op := .eql) (by rfl) 39 rfl rfl rfl (rs_guard) (q1) ?_) | (refine wpList_load_blk (by rfl) 32 _ rfl rfl h5 Tryz.underlying32 rfl (by kernel_rfl) ?_) | (refine wpList_load_blk (by rfl) 32 _ rfl rfl h7 Tryz.underlying32 rfl (by kernel_rfl) ?_))
    refine (same_x hM hM2 E2.out.symm).mono ?_
    rintro r5 w' ⟨rfl, hE⟩
    replace h4 := h4.ext hE
    replace h5 := h5.ext hE
    replace hM := hM.ext hE
    replace r1 := r1.ext hE
    replace HE := Lib.hid (HE.out.trans hE)
    clear hE h6 h7 h8 hM2 q1 h1 h2
    have hnk := HK.out
    by_cases hk2 : k = 2
    · have dk : ((n : Int) % 3 == 2) = true := by rw [hnk, hk2]; rfl
      clear hnk cg1 cg2
      go_wp2
      go_ret
      exact ⟨rfl, HE.out⟩
    · have dk : ((n : Int) % 3 == 2) = false := by rw [hnk, beq_eq_false_iff_ne]; omega
      have hG := E3.out hk2
      rw [hG] at cg1 cg2
      clear hnk hG
      go_wp2_with (first | (refine wpList_load_blk (by rfl) 29 _ rfl rfl h4 Tryz.underlying29 rfl (by kernel_rfl) ?_) | (refine wpList_load_blk (by rfl) 32 _ rfl rfl h5 Tryz.underlying32 rfl (by kernel_rfl) ?_))
      refine (cg1 _ _ _ _ _ r1 hM (hTE _ HE.out)).mono ?_
      rintro r5 w' ⟨rfl, hE⟩
      replace h4 := h4.ext hE
      replace h5 := h5.ext hE
      replace hM := hM.ext hE
      replace r1 := r1.ext hE
      replace HE := Lib.hid (HE.out.trans hE)
      clear hE cg1
      go_wp2_with (first | (refine wpList_load_blk (by rfl) 29 _ rfl rfl h4 Tryz.underlying29 rfl (by kernel_rfl) ?_) | (refine wpList_load_blk (by rfl) 32 _ rfl rfl h5 Tryz.underlying32 rfl (by kernel_rfl) ?_))
      refine (cg2 _ _ _ _ _ r1 hM).mono ?_
      rintro r5 w' ⟨rfl, hE⟩
      replace HE := Lib.hid (HE.out.trans hE)
      clear hE cg2
      go_wp2
      go_ret
      exact ⟨rfl, HE.out⟩
end Go.Proofs.YtledkljbegpdpaaGreatDoor
