/- HartAgain. -/
import Derived.Test.YtledkljbegpdpaaGreatDoorLaw16b
namespace Go.Proofs.YtledkljbegpdpaaGreatDoor
open Go.ChangeShapes Go.WideShapes Go.ChangeAt Go.RowKit
set_option linter.unusedVariables false
set_option linter.unusedSimpArgs false
set_option maxRecDepth 100000

attribute [local irreducible] World.setRow World.alloc Blk
set_option maxHeartbeats 8000000 in
theorem HartAgain_w (caw : Awk) (A : Option Addr) (h : Hr) (c S : Nat) (B : Option Addr) (M : List (Nat × Nat)) (d n a z : Nat) (hok : h.ok) (hS : S < 18446744073709551616) (hC : IsCells M) (n1 : n < 256) (a1 : a < 18446744073709551616) (z1 : z < 256) (w : World) (hr : RowV KS w A h.L c) (hm : RowL w B M d) (hT : Layh w) :
    Calls Tryz.prog 5 #[.agg (hrC ⟨A, c, h⟩), .agg #[.int .u64 (S : Int), .slice B M.length d], .int .u8 (n : Int), .int .u64 (a : Int), .int .u8 (z : Int)] w fun r w' => r = .returned (.bool true) ∧ Ext w w' := by
  have h1 : Blk ((w.alloc (.cells (hrC ⟨A, c, h⟩) 29)).alloc (.cells #[.int .u64 (S : Int), .slice B M.length d] 32)) w.heap.size 29 (hrC ⟨A, c, h⟩) := (Blk.new w _ _).alloc _
  have h2 : Blk ((w.alloc (.cells (hrC ⟨A, c, h⟩) 29)).alloc (.cells #[.int .u64 (S : Int), .slice B M.length d] 32)) (w.heap.size + 1) 32 #[.int .u64 (S : Int), .slice B M.length d] := blk_at (by simp)
  have HE := Lib.hid (((Ext.refl w).alloc (.cells (hrC ⟨A, c, h⟩) 29)).alloc (.cells #[.int .u64 (S : Int), .slice B M.length d] 32))
  have hrow : ∀ W : World, Ext w W → RowV KS W A h.L c := fun W e => hr.ext e
  have hmm : ∀ W : World, Ext w W → RowL W B M d := fun W e => hm.ext e
  have hTE : ∀ W : World, Ext w W → Layh W := fun W e => hT.ext e
  have cft := fun W p q => fits16_c A h c S B M d hS hC W p q
  cases hF : fitH h S M
  · skip
    go_enter Tryz.func5, Tryz.ntmps5
    go_wp2_with (fail); refine (caw _ (hTE _ HE.out)).mono ?_; rintro e w' ⟨rfl, hE⟩; (try replace hb := hb.ext hE); (try replace hm := hm.ext hE); (try replace h1 := h1.ext hE); (try replace h2 := h2.ext hE); (try replace h4 := h4.ext hE); (try replace h5 := h5.ext hE); (try replace h6 := h6.ext hE); (try replace h7 := h7.ext hE); (try replace h8 := h8.ext hE); (try replace h9 := h9.ext hE); (try replace hM := hM.ext hE); (try replace hN := hN.ext hE); (try replace hO := hO.ext hE); (try replace HE := Lib.hid (HE.out.trans hE)); (try replace r0 := r0.ext hE); (try replace r1 := r1.ext hE); (try replace r2 := r2.ext hE); (try replace r3 := r3.ext hE); (try replace r4 := r4.ext hE); (try replace r5 := r5.ext hE); (try replace r6 := r6.ext hE); clear hE
    go_wp2_with ((first | (refine wpList_load_blk (by rfl) 29 _ rfl rfl h1 Tryz.underlying29 rfl (by kernel_rfl) ?_) | (refine wpList_load_blk (by rfl) 32 _ rfl rfl h2 Tryz.underlying32 rfl (by kernel_rfl) ?_))); refine (cft _ (hrow _ HE.out) (hmm _ HE.out)).mono ?_; rintro e w' ⟨rfl, hE⟩; (try replace hb := hb.ext hE); (try replace hm := hm.ext hE); (try replace h1 := h1.ext hE); (try replace h2 := h2.ext hE); (try replace h4 := h4.ext hE); (try replace h5 := h5.ext hE); (try replace h6 := h6.ext hE); (try replace h7 := h7.ext hE); (try replace h8 := h8.ext hE); (try replace h9 := h9.ext hE); (try replace hM := hM.ext hE); (try replace hN := hN.ext hE); (try replace hO := hO.ext hE); (try replace HE := Lib.hid (HE.out.trans hE)); (try replace r0 := r0.ext hE); (try replace r1 := r1.ext hE); (try replace r2 := r2.ext hE); (try replace r3 := r3.ext hE); (try replace r4 := r4.ext hE); (try replace r5 := r5.ext hE); (try replace r6 := r6.ext hE); clear hE
    rw [hF]
    clear cft
    go_wp2_with (fail); refine (caw _ (hTE _ HE.out)).mono ?_; rintro e w' ⟨rfl, hE⟩; (try replace hb := hb.ext hE); (try replace hm := hm.ext hE); (try replace h1 := h1.ext hE); (try replace h2 := h2.ext hE); (try replace h4 := h4.ext hE); (try replace h5 := h5.ext hE); (try replace h6 := h6.ext hE); (try replace h7 := h7.ext hE); (try replace h8 := h8.ext hE); (try replace h9 := h9.ext hE); (try replace hM := hM.ext hE); (try replace hN := hN.ext hE); (try replace hO := hO.ext hE); (try replace HE := Lib.hid (HE.out.trans hE)); (try replace r0 := r0.ext hE); (try replace r1 := r1.ext hE); (try replace r2 := r2.ext hE); (try replace r3 := r3.ext hE); (try replace r4 := r4.ext hE); (try replace r5 := r5.ext hE); (try replace r6 := r6.ext hE); clear hE
    go_wp2
    go_ret
    exact ⟨rfl, HE.out⟩
  obtain ⟨-, fr, f3, -⟩ := fit_h hF
  obtain ⟨frt, fsm, -⟩ := right_split fr
  have hMm : ∀ W : World, Ext w W → Mem W S B M d := fun W e => fit_m hF hC (hmm W e)
  rcases sm_on fsm with hmd | hmd
  · have d0 : ((h.sp.md : Int) == 0) = true := by rw [hmd]; rfl
    go_enter Tryz.func5, Tryz.ntmps5
    go_wp2_with (fail); refine (caw _ (hTE _ HE.out)).mono ?_; rintro e w' ⟨rfl, hE⟩; (try replace hb := hb.ext hE); (try replace hm := hm.ext hE); (try replace h1 := h1.ext hE); (try replace h2 := h2.ext hE); (try replace h4 := h4.ext hE); (try replace h5 := h5.ext hE); (try replace h6 := h6.ext hE); (try replace h7 := h7.ext hE); (try replace h8 := h8.ext hE); (try replace h9 := h9.ext hE); (try replace hM := hM.ext hE); (try replace hN := hN.ext hE); (try replace hO := hO.ext hE); (try replace HE := Lib.hid (HE.out.trans hE)); (try replace r0 := r0.ext hE); (try replace r1 := r1.ext hE); (try replace r2 := r2.ext hE); (try replace r3 := r3.ext hE); (try replace r4 := r4.ext hE); (try replace r5 := r5.ext hE); (try replace r6 := r6.ext hE); clear hE
    go_wp2_with ((first | (refine wpList_load_blk (by rfl) 29 _ rfl rfl h1 Tryz.underlying29 rfl (by kernel_rfl) ?_) | (refine wpList_load_blk (by rfl) 32 _ rfl rfl h2 Tryz.underlying32 rfl (by kernel_rfl) ?_))); refine (cft _ (hrow _ HE.out) (hmm _ HE.out)).mono ?_; rintro e w' ⟨rfl, hE⟩; (try replace hb := hb.ext hE); (try replace hm := hm.ext hE); (try replace h1 := h1.ext hE); (try replace h2 := h2.ext hE); (try replace h4 := h4.ext hE); (try replace h5 := h5.ext hE); (try replace h6 := h6.ext hE); (try replace h7 := h7.ext hE); (try replace h8 := h8.ext hE); (try replace h9 := h9.ext hE); (try replace hM := hM.ext hE); (try replace hN := hN.ext hE); (try replace hO := hO.ext hE); (try replace HE := Lib.hid (HE.out.trans hE)); (try replace r0 := r0.ext hE); (try replace r1 := r1.ext hE); (try replace r2 := r2.ext hE); (try replace r3 := r3.ext hE); (try replace r4 := r4.ext hE); (try replace r5 := r5.ext hE); (try replace r6 := r6.ext hE); clear hE
    rw [hF]
    clear cft
    have x1 := h1.hr.md
    go_wp2_with (fail); refine (caw _ (hTE _ HE.out)).mono ?_; rintro e w' ⟨rfl, hE⟩; (try replace hb := hb.ext hE); (try replace hm := hm.ext hE); (try replace h1 := h1.ext hE); (try replace h2 := h2.ext hE); (try replace h4 := h4.ext hE); (try replace h5 := h5.ext hE); (try replace h6 := h6.ext hE); (try replace h7 := h7.ext hE); (try replace h8 := h8.ext hE); (try replace h9 := h9.ext hE); (try replace hM := hM.ext hE); (try replace hN := hN.ext hE); (try replace hO := hO.ext hE); (try replace HE := Lib.hid (HE.out.trans hE)); (try replace r0 := r0.ext hE); (try replace r1 := r1.ext hE); (try replace r2 := r2.ext hE); (try replace r3 := r3.ext hE); (try replace r4 := r4.ext hE); (try replace r5 := r5.ext hE); (try replace r6 := r6.ext hE); clear hE
    go_wp2
    go_ret
    exact ⟨rfl, HE.out⟩
  have d0 : ((h.sp.md : Int) == 0) = false := by rw [hmd]; rfl
  have crg := fun W p q => ragrees16_c A h c S B M d frt (sm_fits fsm).2.2 W p q
  cases hag : agH S M h
  · skip
    go_enter Tryz.func5, Tryz.ntmps5
    go_wp2_with (fail); refine (caw _ (hTE _ HE.out)).mono ?_; rintro e w' ⟨rfl, hE⟩; (try replace hb := hb.ext hE); (try replace hm := hm.ext hE); (try replace h1 := h1.ext hE); (try replace h2 := h2.ext hE); (try replace h4 := h4.ext hE); (try replace h5 := h5.ext hE); (try replace h6 := h6.ext hE); (try replace h7 := h7.ext hE); (try replace h8 := h8.ext hE); (try replace h9 := h9.ext hE); (try replace hM := hM.ext hE); (try replace hN := hN.ext hE); (try replace hO := hO.ext hE); (try replace HE := Lib.hid (HE.out.trans hE)); (try replace r0 := r0.ext hE); (try replace r1 := r1.ext hE); (try replace r2 := r2.ext hE); (try replace r3 := r3.ext hE); (try replace r4 := r4.ext hE); (try replace r5 := r5.ext hE); (try replace r6 := r6.ext hE); clear hE
    go_wp2_with ((first | (refine wpList_load_blk (by rfl) 29 _ rfl rfl h1 Tryz.underlying29 rfl (by kernel_rfl) ?_) | (refine wpList_load_blk (by rfl) 32 _ rfl rfl h2 Tryz.underlying32 rfl (by kernel_rfl) ?_))); refine (cft _ (hrow _ HE.out) (hmm _ HE.out)).mono ?_; rintro e w' ⟨rfl, hE⟩; (try replace hb := hb.ext hE); (try replace hm := hm.ext hE); (try replace h1 := h1.ext hE); (try replace h2 := h2.ext hE); (try replace h4 := h4.ext hE); (try replace h5 := h5.ext hE); (try replace h6 := h6.ext hE); (try replace h7 := h7.ext hE); (try replace h8 := h8.ext hE); (try replace h9 := h9.ext hE); (try replace hM := hM.ext hE); (try replace hN := hN.ext hE); (try replace hO := hO.ext hE); (try replace HE := Lib.hid (HE.out.trans hE)); (try replace r0 := r0.ext hE); (try replace r1 := r1.ext hE); (try replace r2 := r2.ext hE); (try replace r3 := r3.ext hE); (try replace r4 := r4.ext hE); (try replace r5 := r5.ext hE); (try replace r6 := r6.ext hE); clear hE
    rw [hF]
    clear cft
    have x1 := h1.hr.md
    go_wp2_with ((first | (refine wpList_load_blk (by rfl) 29 _ rfl rfl h1 Tryz.underlying29 rfl (by kernel_rfl) ?_) | (refine wpList_load_blk (by rfl) 32 _ rfl rfl h2 Tryz.underlying32 rfl (by kernel_rfl) ?_))); refine (crg _ (hrow _ HE.out) (hMm _ HE.out)).mono ?_; rintro e w' ⟨rfl, hE⟩; (try replace hb := hb.ext hE); (try replace hm := hm.ext hE); (try replace h1 := h1.ext hE); (try replace h2 := h2.ext hE); (try replace h4 := h4.ext hE); (try replace h5 := h5.ext hE); (try replace h6 := h6.ext hE); (try replace h7 := h7.ext hE); (try replace h8 := h8.ext hE); (try replace h9 := h9.ext hE); (try replace hM := hM.ext hE); (try replace hN := hN.ext hE); (try replace hO := hO.ext hE); (try replace HE := Lib.hid (HE.out.trans hE)); (try replace r0 := r0.ext hE); (try replace r1 := r1.ext hE); (try replace r2 := r2.ext hE); (try replace r3 := r3.ext hE); (try replace r4 := r4.ext hE); (try replace r5 := r5.ext hE); (try replace r6 := r6.ext hE); clear hE
    clear x1 crg
    rw [hag]
    go_wp2_with (fail); refine (caw _ (hTE _ HE.out)).mono ?_; rintro e w' ⟨rfl, hE⟩; (try replace hb := hb.ext hE); (try replace hm := hm.ext hE); (try replace h1 := h1.ext hE); (try replace h2 := h2.ext hE); (try replace h4 := h4.ext hE); (try replace h5 := h5.ext hE); (try replace h6 := h6.ext hE); (try replace h7 := h7.ext hE); (try replace h8 := h8.ext hE); (try replace h9 := h9.ext hE); (try replace hM := hM.ext hE); (try replace hN := hN.ext hE); (try replace hO := hO.ext hE); (try replace HE := Lib.hid (HE.out.trans hE)); (try replace r0 := r0.ext hE); (try replace r1 := r1.ext hE); (try replace r2 := r2.ext hE); (try replace r3 := r3.ext hE); (try replace r4 := r4.ext hE); (try replace r5 := r5.ext hE); (try replace r6 := r6.ext hE); clear hE
    go_wp2
    go_ret
    exact ⟨rfl, HE.out⟩
  have hM0 := hMm w (Ext.refl _)
  have hRL := hM0.rl
  have h8 := hM0.ok.mod8
  clear hM0
  obtain ⟨s, hs, -, cpk⟩ := pick_s (z : Int) (by omega) (by omega)
  have hnk : ((n % 2 : Nat) : Int) = (n : Int) % 2 := by omega
  have c1 := fun W r m t => acc16_c A h c S B M d (n % 2) a s 0 fr hok (by omega) a1 hs (by decide) W r m (by omega) t
  have hR := acc_right (k := n % 2) fr hRL h8 a1 s 0
  have hO := acc_ok (k := n % 2) fr hok hRL h8 a1 s
  have hl1 := acc_len (h := h) (k := n % 2) (a := a) hRL h8 s 0
  have c2 := fun A4 c4 B4 d4 W r m t => acc16_c A4 (accH S M h (n % 2) a s) c4 S B4 (accM S M h (n % 2) a s 0) d4 (n % 2) a s 0 hR.1 hO (by omega) a1 hs (by decide) W r m (by omega) t
  have AG := again (k := n % 2) (s := s) fr hRL h8 a1 hmd hag (by omega)
  have e1 := AG.r
  have e2 := AG.m
  have e3 := AG.len
  have e4 := AG.ws
  unfold AccT at c1 c2
  simp only [hnk] at c1 c2
  clear AG hR hO hl1 hRL h8 hs f3
  generalize accR S (accM S M h (n % 2) a s 0) (accH S M h (n % 2) a s) (n % 2) a s = R2 at *
  generalize accM S (accM S M h (n % 2) a s 0) (accH S M h (n % 2) a s) (n % 2) a s 0 = M2 at *
  generalize accH S (accM S M h (n % 2) a s 0) (accH S M h (n % 2) a s) (n % 2) a s = H2 at *
  generalize accH S M h (n % 2) a s = H1 at *
  generalize accM S M h (n % 2) a s 0 = M1 at *
  generalize accR S M h (n % 2) a s = R1 at *
  have E1 := Lib.hid e1
  have E2 := Lib.hid e2
  have E3 := Lib.hid e3
  clear e1 e2 e3
  go_enter Tryz.func5, Tryz.ntmps5
  go_wp2_with (fail); refine (caw _ (hTE _ HE.out)).mono ?_; rintro e w' ⟨rfl, hE⟩; (try replace hb := hb.ext hE); (try replace hm := hm.ext hE); (try replace h1 := h1.ext hE); (try replace h2 := h2.ext hE); (try replace h4 := h4.ext hE); (try replace h5 := h5.ext hE); (try replace h6 := h6.ext hE); (try replace h7 := h7.ext hE); (try replace h8 := h8.ext hE); (try replace h9 := h9.ext hE); (try replace hM := hM.ext hE); (try replace hN := hN.ext hE); (try replace hO := hO.ext hE); (try replace HE := Lib.hid (HE.out.trans hE)); (try replace r0 := r0.ext hE); (try replace r1 := r1.ext hE); (try replace r2 := r2.ext hE); (try replace r3 := r3.ext hE); (try replace r4 := r4.ext hE); (try replace r5 := r5.ext hE); (try replace r6 := r6.ext hE); clear hE
  go_wp2_with ((first | (refine wpList_load_blk (by rfl) 29 _ rfl rfl h1 Tryz.underlying29 rfl (by kernel_rfl) ?_) | (refine wpList_load_blk (by rfl) 32 _ rfl rfl h2 Tryz.underlying32 rfl (by kernel_rfl) ?_))); refine (cft _ (hrow _ HE.out) (hmm _ HE.out)).mono ?_; rintro e w' ⟨rfl, hE⟩; (try replace hb := hb.ext hE); (try replace hm := hm.ext hE); (try replace h1 := h1.ext hE); (try replace h2 := h2.ext hE); (try replace h4 := h4.ext hE); (try replace h5 := h5.ext hE); (try replace h6 := h6.ext hE); (try replace h7 := h7.ext hE); (try replace h8 := h8.ext hE); (try replace h9 := h9.ext hE); (try replace hM := hM.ext hE); (try replace hN := hN.ext hE); (try replace hO := hO.ext hE); (try replace HE := Lib.hid (HE.out.trans hE)); (try replace r0 := r0.ext hE); (try replace r1 := r1.ext hE); (try replace r2 := r2.ext hE); (try replace r3 := r3.ext hE); (try replace r4 := r4.ext hE); (try replace r5 := r5.ext hE); (try replace r6 := r6.ext hE); clear hE
  rw [hF]
  clear cft
  have x1 := h1.hr.md
  go_wp2_with ((first | (refine wpList_load_blk (by rfl) 29 _ rfl rfl h1 Tryz.underlying29 rfl (by kernel_rfl) ?_) | (refine wpList_load_blk (by rfl) 32 _ rfl rfl h2 Tryz.underlying32 rfl (by kernel_rfl) ?_))); refine (crg _ (hrow _ HE.out) (hMm _ HE.out)).mono ?_; rintro e w' ⟨rfl, hE⟩; (try replace hb := hb.ext hE); (try replace hm := hm.ext hE); (try replace h1 := h1.ext hE); (try replace h2 := h2.ext hE); (try replace h4 := h4.ext hE); (try replace h5 := h5.ext hE); (try replace h6 := h6.ext hE); (try replace h7 := h7.ext hE); (try replace h8 := h8.ext hE); (try replace h9 := h9.ext hE); (try replace hM := hM.ext hE); (try replace hN := hN.ext hE); (try replace hO := hO.ext hE); (try replace HE := Lib.hid (HE.out.trans hE)); (try replace r0 := r0.ext hE); (try replace r1 := r1.ext hE); (try replace r2 := r2.ext hE); (try replace r3 := r3.ext hE); (try replace r4 := r4.ext hE); (try replace r5 := r5.ext hE); (try replace r6 := r6.ext hE); clear hE
  clear x1 crg
  rw [hag]
  go_wp2_with fail
  refine (cpk _).mono ?_
  rintro r5 w' ⟨rfl, hE⟩
  (try replace hb := hb.ext hE); (try replace hm := hm.ext hE); (try replace h1 := h1.ext hE); (try replace h2 := h2.ext hE); (try replace h4 := h4.ext hE); (try replace h5 := h5.ext hE); (try replace h6 := h6.ext hE); (try replace h7 := h7.ext hE); (try replace h8 := h8.ext hE); (try replace h9 := h9.ext hE); (try replace hM := hM.ext hE); (try replace hN := hN.ext hE); (try replace hO := hO.ext hE); (try replace HE := Lib.hid (HE.out.trans hE)); (try replace r0 := r0.ext hE); (try replace r1 := r1.ext hE); (try replace r2 := r2.ext hE); (try replace r3 := r3.ext hE); (try replace r4 := r4.ext hE); (try replace r5 := r5.ext hE); (try replace r6 := r6.ext hE)
  clear hE cpk
  go_wp2_with ((first | (refine wpList_load_blk (by rfl) 29 _ rfl rfl h1 Tryz.underlying29 rfl (by kernel_rfl) ?_) | (refine wpList_load_blk (by rfl) 32 _ rfl rfl h2 Tryz.underlying32 rfl (by kernel_rfl) ?_))); refine (c1 _ (hrow _ HE.out) (hMm _ HE.out) (hTE _ HE.out)).mono ?_; rintro e w' ⟨A1, B1, cc1, dd1, rfl, r1, hM, hE⟩; (try replace hb := hb.ext hE); (try replace hm := hm.ext hE); (try replace h1 := h1.ext hE); (try replace h2 := h2.ext hE); (try replace h4 := h4.ext hE); (try replace h5 := h5.ext hE); (try replace h6 := h6.ext hE); (try replace h7 := h7.ext hE); (try replace h8 := h8.ext hE); (try replace h9 := h9.ext hE); (try replace hM := hM.ext hE); (try replace hN := hN.ext hE); (try replace hO := hO.ext hE); (try replace HE := Lib.hid (HE.out.trans hE)); (try replace r0 := r0.ext hE); (try replace r1 := r1.ext hE); (try replace r2 := r2.ext hE); (try replace r3 := r3.ext hE); (try replace r4 := r4.ext hE); (try replace r5 := r5.ext hE); (try replace r6 := r6.ext hE); clear hE
  clear c1
  obtain ⟨zz1, zz2, zz3, hE, h4, h5, h6⟩ := nh3 w' (hrC ⟨A1, cc1, H1⟩) #[.int .u64 (S : Int), .slice B1 M1.length dd1] (rsC R1); (try replace hb := hb.ext hE); (try replace hm := hm.ext hE); (try replace h1 := h1.ext hE); (try replace h2 := h2.ext hE); (try replace h4 := h4.ext hE); (try replace h5 := h5.ext hE); (try replace h6 := h6.ext hE); (try replace h7 := h7.ext hE); (try replace h8 := h8.ext hE); (try replace h9 := h9.ext hE); (try replace hM := hM.ext hE); (try replace hN := hN.ext hE); (try replace hO := hO.ext hE); (try replace HE := Lib.hid (HE.out.trans hE)); (try replace r0 := r0.ext hE); (try replace r1 := r1.ext hE); (try replace r2 := r2.ext hE); (try replace r3 := r3.ext hE); (try replace r4 := r4.ext hE); (try replace r5 := r5.ext hE); (try replace r6 := r6.ext hE); clear hE
  go_wp2_with (first | (first | (refine wpList_store_blk rfl 29 _ _ rfl rfl rfl zz1 (hr_info _) (by simp [hrC_size]) (hrC_one _) ?_) | (refine wpList_store_blk rfl 32 _ _ rfl rfl rfl zz2 (by kernel_rfl) (by rfl) (by simp [Value.oneCell']) ?_) | ((refine wpList_store_blk rfl 39 _ _ rfl rfl rfl zz3 (rs_info _) (by simp [rsC_size]) (rsC_one _) ?_); clear zz1 zz2 zz3; generalize (((((w'.alloc (.cells #[.slice none 0 0, .int .u64 0, .int .u64 0, .int .u64 0, .int .i64 0, .bool false, .bool false, .int .i64 0] 29)).alloc (.cells #[.int .u64 0, .slice none 0 0] 32)).alloc (.cells #[.int .u64 0, .bool false, .int .i64 0, .int .u64 0] 39)).setRow w'.heap.size (hrC ⟨A1, cc1, H1⟩)).setRow (w'.heap.size + 1) #[.int .u64 (S : Int), .slice B1 M1.length dd1]).setRow (w'.heap.size + 1 + 1) (rsC R1) = X at *)) | (refine wpList_load_blk (by rfl) 29 _ rfl rfl h4 Tryz.underlying29 rfl (by kernel_rfl) ?_) | (refine wpList_load_blk (by rfl) 32 _ rfl rfl h5 Tryz.underlying32 rfl (by kernel_rfl) ?_))
  refine (c2 _ _ _ _ _ r1 hM (hTE _ HE.out)).mono ?_
  rintro r5 w' ⟨A2, B2, cc2, dd2, rfl, r2, hN, hE⟩
  (try replace hb := hb.ext hE); (try replace hm := hm.ext hE); (try replace h1 := h1.ext hE); (try replace h2 := h2.ext hE); (try replace h4 := h4.ext hE); (try replace h5 := h5.ext hE); (try replace h6 := h6.ext hE); (try replace h7 := h7.ext hE); (try replace h8 := h8.ext hE); (try replace h9 := h9.ext hE); (try replace hM := hM.ext hE); (try replace hN := hN.ext hE); (try replace hO := hO.ext hE); (try replace HE := Lib.hid (HE.out.trans hE)); (try replace r0 := r0.ext hE); (try replace r1 := r1.ext hE); (try replace r2 := r2.ext hE); (try replace r3 := r3.ext hE); (try replace r4 := r4.ext hE); (try replace r5 := r5.ext hE); (try replace r6 := r6.ext hE)
  clear hE c2
  obtain ⟨zz1, zz2, zz3, hE, h7, h8, h9⟩ := nh3 w' (hrC ⟨A2, cc2, H2⟩) #[.int .u64 (S : Int), .slice B2 M2.length dd2] (rsC R2); (try replace hb := hb.ext hE); (try replace hm := hm.ext hE); (try replace h1 := h1.ext hE); (try replace h2 := h2.ext hE); (try replace h4 := h4.ext hE); (try replace h5 := h5.ext hE); (try replace h6 := h6.ext hE); (try replace h7 := h7.ext hE); (try replace h8 := h8.ext hE); (try replace h9 := h9.ext hE); (try replace hM := hM.ext hE); (try replace hN := hN.ext hE); (try replace hO := hO.ext hE); (try replace HE := Lib.hid (HE.out.trans hE)); (try replace r0 := r0.ext hE); (try replace r1 := r1.ext hE); (try replace r2 := r2.ext hE); (try replace r3 := r3.ext hE); (try replace r4 := r4.ext hE); (try replace r5 := r5.ext hE); (try replace r6 := r6.ext hE); clear hE
  go_upto_region 7 with (first | (refine wpList_store_blk rfl 29 _ _ rfl rfl rfl zz1 (hr_info _) (by simp [hrC_size]) (hrC_one _) ?_) | (refine wpList_store_blk rfl 32 _ _ rfl rfl rfl zz2 (by kernel_rfl) (by rfl) (by simp [Value.oneCell']) ?_) | ((refine wpList_store_blk rfl 39 _ _ rfl rfl rfl zz3 (rs_info _) (by simp [rsC_size]) (rsC_one _) ?_); clear zz1 zz2 zz3; generalize (((((w'.alloc (.cells #[.slice none 0 0, .int .u64 0, .int .u64 0, .int .u64 0, .int .i64 0, .bool false, .bool false, .int .i64 0] 29)).alloc (.cells #[.int .u64 0, .slice none 0 0] 32)).alloc (.cells #[.int .u64 0, .bool false, .int .i64 0, .int .u64 0] 39)).setRow w'.heap.size (hrC ⟨A2, cc2, H2⟩)).setRow (w'.heap.size + 1) #[.int .u64 (S : Int), .slice B2 M2.length dd2]).setRow (w'.heap.size + 1 + 1) (rsC R2) = X at *))
  simp only [Act.put, List.setIfInBounds_toArray, List.set_cons_zero, List.set_cons_succ]
  have q1 : ∀ w, (binOp .neq 39 (.agg (rsC R1)) (.agg (rsC R2))).run Tryz.prog w = .ok (.bool false) w := fun w => by rw [E1.out]; exact run_b (neq_rs w _ _) (dec_nots _)
  have x7 := h7.hr.s
  have x4 := h4.hr.s
  have d1 : ((H2.L.length : Int) != (H1.L.length : Int)) = false := by rw [E3.out]; simp
  go_wp2_with ((first | (refine wpList_load_blk (by rfl) 39 _ rfl rfl h6 Tryz.underlying39 rfl (by kernel_rfl) ?_) | (refine wpList_load_blk (by rfl) 39 _ rfl rfl h9 Tryz.underlying39 rfl (by kernel_rfl) ?_) | (refine wpList_cmp (op := .neq) (by rfl) 39 rfl rfl rfl (rs_guard) (q1) ?_) | (refine wpList_load_blk (by rfl) 32 _ rfl rfl h5 Tryz.underlying32 rfl (by kernel_rfl) ?_) | (refine wpList_load_blk (by rfl) 32 _ rfl rfl h8 Tryz.underlying32 rfl (by kernel_rfl) ?_))); refine (same_x hM hN E2.out.symm).mono ?_; rintro e w' ⟨rfl, hE⟩; (try replace hb := hb.ext hE); (try replace hm := hm.ext hE); (try replace h1 := h1.ext hE); (try replace h2 := h2.ext hE); (try replace h4 := h4.ext hE); (try replace h5 := h5.ext hE); (try replace h6 := h6.ext hE); (try replace h7 := h7.ext hE); (try replace h8 := h8.ext hE); (try replace h9 := h9.ext hE); (try replace hM := hM.ext hE); (try replace hN := hN.ext hE); (try replace hO := hO.ext hE); (try replace HE := Lib.hid (HE.out.trans hE)); (try replace r0 := r0.ext hE); (try replace r1 := r1.ext hE); (try replace r2 := r2.ext hE); (try replace r3 := r3.ext hE); (try replace r4 := r4.ext hE); (try replace r5 := r5.ext hE); (try replace r6 := r6.ext hE); clear hE
  clear q1 hM hN h5 h6 h8 h9 x7 x4
  have x7 := h7.hr.s
  have x4 := h4.hr.s
  have E4 := Lib.hid e4
  have b4 := h4
  have b7 := h7
  have HE0 := Lib.hid (Ext.refl w')
  have hr1 : ∀ W : World, Ext w' W → RowV KS W A1 H1.L cc1 := fun W e => r1.ext e
  have hr2 : ∀ W : World, Ext w' W → RowV KS W A2 H2.L cc2 := fun W e => r2.ext e
  have hcm := r1.2.2.2
  have hlc := r1.2.2.1
  clear r1 r2 h4 h7 h1 h2 hrow hmm hMm e4
  go_wp2
  go_loopw [19] (fun v wr => ∃ k : Nat, k ≤ H1.L.length ∧ v = .int .i64 k ∧ Ext w' wr) (fun v _ => (H1.L.length - intOf v).toNat)
  case atStart => exact ⟨0, by omega, rfl, Ext.refl _⟩
  case round =>
    clear x7 x4
    obtain ⟨k, hk, rfl, hE⟩ := hrel
    have HB := Lib.hid hE
    clear hE
    have h4 := b4.ext HB.out
    have h7 := b7.ext HB.out
    have x4 := h4.hr.s
    by_cases hlt : k < H1.L.length
    · have hkz : (k : Int) < (H1.L.length : Int) := by omega
      have hkz2 : (k : Int) < (H2.L.length : Int) := by rw [E3.out]; omega
      obtain ⟨b, off, rfl, hb, hx⟩ := (hr1 _ HB.out).some (by omega)
      obtain ⟨b', off', rfl, hb', hx'⟩ := (hr2 _ HB.out).some (by rw [E3.out]; omega)
      have g1 : wr.rangeAt b (off + k * 45) (wsC (sT H1.L k).ws).toList := rng_ws (by rw [sT_eq]; exact hx k hlt)
      have g2 : wr.rangeAt b' (off' + k * 45) (wsC (sT H2.L k).ws).toList := rng_ws (by rw [sT_eq]; exact hx' k (by rw [E3.out]; exact hlt))
      rw [E4.out k] at g2
      generalize (sT H1.L k).ws = ws at g1 g2
      clear hr1 hr2 hx hx' hb hb'
      go_wp2_with fail
      clear x4
      (try replace hb := Blk.drew hb); (try replace hm := Blk.drew hm); (try replace h1 := Blk.drew h1); (try replace h2 := Blk.drew h2); (try replace h4 := Blk.drew h4); (try replace h5 := Blk.drew h5); (try replace h6 := Blk.drew h6); (try replace h7 := Blk.drew h7); (try replace h8 := Blk.drew h8); (try replace h9 := Blk.drew h9); replace HE := Lib.hid HE.out.drew
      replace HB := Lib.hid (HB.out.trans (Ext.refl _).drew)
      have g1' := rng_ext (Ext.refl wr).drew g1
      have g2' := rng_ext (Ext.refl wr).drew g2
      refine wp_region_seq [(0, false), (1, false), (2, false), (3, false), (4, false), (5, false), (6, false), (7, false), (8, false), (9, false), (10, false), (11, false), (12, false), (13, false), (14, false)] Ext (by kernel_rfl) (by kernel_rfl) Ext.refl (fun _ _ _ => Ext.trans) ?_; simp only [List.map, nth_z, nth_s]
      (repeat (first | (refine seq_skip (by rfl) ?_; intro K hK; simp only [Act.put, List.setIfInBounds_toArray, List.set_cons_zero, List.set_cons_succ]; refine hK _ ?_; clear hK K) | (refine seq_skipc (by rfl) ?_; intro K hK; simp only [Act.put, List.setIfInBounds_toArray, List.set_cons_zero, List.set_cons_succ]; refine hK _ ?_; clear hK K) | (refine seq_read (by rfl) (by rfl) ?_; intro K hK; go_big_quiet_op; first | go_big_quiet_on | (refine ⟨_, fun _ _ => rfl, ?_⟩; go_big_quiet_on))))
      refine seq_value (.slice (some ⟨b, off, none⟩) H1.L.length cc1) (by rfl) (fun x hx => by have hq := ext_cell hx (h4.hr.s); simp [go_sem, execOp, Act.eval, hq]) ?_; intro K hK; simp only [Act.put, List.setIfInBounds_toArray, List.set_cons_zero, List.set_cons_succ]; refine hK _ ?_; clear hK K
      (repeat (first | (refine seq_skip (by rfl) ?_; intro K hK; simp only [Act.put, List.setIfInBounds_toArray, List.set_cons_zero, List.set_cons_succ]; refine hK _ ?_; clear hK K) | (refine seq_skipc (by rfl) ?_; intro K hK; simp only [Act.put, List.setIfInBounds_toArray, List.set_cons_zero, List.set_cons_succ]; refine hK _ ?_; clear hK K) | (refine seq_read (by rfl) (by rfl) ?_; intro K hK; go_big_quiet_op; first | go_big_quiet_on | (refine ⟨_, fun _ _ => rfl, ?_⟩; go_big_quiet_on))))
      refine seq_load_rng rfl rfl ((fun x hx => rng_ext hx g1')) rfl Tryz.underlying53 (ws_info _) (by rfl) ?_; intro K hK; simp only [Act.put, List.setIfInBounds_toArray, List.set_cons_zero, List.set_cons_succ]; refine hK _ ?_; clear hK K
      (repeat (first | (refine seq_skip (by rfl) ?_; intro K hK; simp only [Act.put, List.setIfInBounds_toArray, List.set_cons_zero, List.set_cons_succ]; refine hK _ ?_; clear hK K) | (refine seq_skipc (by rfl) ?_; intro K hK; simp only [Act.put, List.setIfInBounds_toArray, List.set_cons_zero, List.set_cons_succ]; refine hK _ ?_; clear hK K) | (refine seq_read (by rfl) (by rfl) ?_; intro K hK; go_big_quiet_op; first | go_big_quiet_on | (refine ⟨_, fun _ _ => rfl, ?_⟩; go_big_quiet_on))))
      refine seq_value (.slice (some ⟨b', off', none⟩) H2.L.length cc2) (by rfl) (fun x hx => by have hq := ext_cell hx (h7.hr.s); simp [go_sem, execOp, Act.eval, hq]) ?_; intro K hK; simp only [Act.put, List.setIfInBounds_toArray, List.set_cons_zero, List.set_cons_succ]; refine hK _ ?_; clear hK K
      (repeat (first | (refine seq_skip (by rfl) ?_; intro K hK; simp only [Act.put, List.setIfInBounds_toArray, List.set_cons_zero, List.set_cons_succ]; refine hK _ ?_; clear hK K) | (refine seq_skipc (by rfl) ?_; intro K hK; simp only [Act.put, List.setIfInBounds_toArray, List.set_cons_zero, List.set_cons_succ]; refine hK _ ?_; clear hK K) | (refine seq_read (by rfl) (by rfl) ?_; intro K hK; go_big_quiet_op; first | go_big_quiet_on | (refine ⟨_, fun _ _ => rfl, ?_⟩; go_big_quiet_on))))
      refine seq_load_rng rfl rfl ((fun x hx => rng_ext hx g2')) rfl Tryz.underlying53 (ws_info _) (by rfl) ?_; intro K hK; simp only [Act.put, List.setIfInBounds_toArray, List.set_cons_zero, List.set_cons_succ]; refine hK _ ?_; clear hK K
      refine seq_cmp rfl rfl rfl (ws_guard) ((fun w => run_b (neq_ws w _ _) (dec_nots _))) (by rfl) ?_; intro K hK; simp only [Act.put, List.setIfInBounds_toArray, List.set_cons_zero, List.set_cons_succ]; refine hK _ ?_; clear hK K
      refine seq_done ?_
      go_wp2
      go_roundw
      case rel => exact ⟨k + 1, by omega, by go_num, HB.out⟩
      case measure => simp [intOf]; omega
    · obtain rfl : k = H1.L.length := by omega
      clear hr1 hr2 hk hlt
      go_wp2
      go_ret
      exact ⟨rfl, HE.out.trans HB.out⟩
end Go.Proofs.YtledkljbegpdpaaGreatDoor
