/- HartStays. -/
import Derived.Test.YtledkljbegpdpaaGreatDoorLaw16b
namespace Go.Proofs.YtledkljbegpdpaaGreatDoor
open Go.ChangeShapes Go.WideShapes Go.ChangeAt Go.RowKit
set_option linter.unusedVariables false
set_option linter.unusedSimpArgs false
set_option maxRecDepth 100000

attribute [local irreducible] World.setRow World.alloc Blk
set_option maxHeartbeats 8000000 in
theorem HartStays_w (caw : Awk) (A : Option Addr) (h : Hr) (c S : Nat) (B : Option Addr) (M : List (Nat × Nat)) (d n a z v : Nat) (hok : h.ok) (hS : S < 18446744073709551616) (hC : IsCells M) (n1 : n < 256) (a1 : a < 18446744073709551616) (z1 : z < 256) (v1 : v < 18446744073709551616) (w : World) (hr : RowV KS w A h.L c) (hm : RowL w B M d) (hT : Layh w) :
    Calls Tryz.prog 4 #[.agg (hrC ⟨A, c, h⟩), .agg #[.int .u64 (S : Int), .slice B M.length d], .int .u8 (n : Int), .int .u64 (a : Int), .int .u8 (z : Int), .int .u64 (v : Int)] w fun r w' => r = .returned (.bool true) ∧ Ext w w' := by
  have h1 : Blk ((w.alloc (.cells (hrC ⟨A, c, h⟩) 29)).alloc (.cells #[.int .u64 (S : Int), .slice B M.length d] 32)) w.heap.size 29 (hrC ⟨A, c, h⟩) := (Blk.new w _ _).alloc _
  have h2 : Blk ((w.alloc (.cells (hrC ⟨A, c, h⟩) 29)).alloc (.cells #[.int .u64 (S : Int), .slice B M.length d] 32)) (w.heap.size + 1) 32 #[.int .u64 (S : Int), .slice B M.length d] := blk_at (by simp)
  have HE := Lib.hid (((Ext.refl w).alloc (.cells (hrC ⟨A, c, h⟩) 29)).alloc (.cells #[.int .u64 (S : Int), .slice B M.length d] 32))
  have hrow : ∀ W : World, Ext w W → RowV KS W A h.L c := fun W e => hr.ext e
  have hmm : ∀ W : World, Ext w W → RowL W B M d := fun W e => hm.ext e
  have hTE : ∀ W : World, Ext w W → Layh W := fun W e => hT.ext e
  have cft := fun W p q => fits16_c A h c S B M d hS hC W p q
  cases hF : fitH h S M
  · skip
    go_enter Tryz.func4, Tryz.ntmps4
    go_wp2_with (fail); refine (caw _ (hTE _ HE.out)).mono ?_; rintro e w' ⟨rfl, hE⟩; (try replace hb := hb.ext hE); (try replace hm := hm.ext hE); (try replace h1 := h1.ext hE); (try replace h2 := h2.ext hE); (try replace h4 := h4.ext hE); (try replace h5 := h5.ext hE); (try replace h6 := h6.ext hE); (try replace h7 := h7.ext hE); (try replace h8 := h8.ext hE); (try replace h9 := h9.ext hE); (try replace hM := hM.ext hE); (try replace hN := hN.ext hE); (try replace hO := hO.ext hE); (try replace HE := Lib.hid (HE.out.trans hE)); (try replace r0 := r0.ext hE); (try replace r1 := r1.ext hE); (try replace r2 := r2.ext hE); (try replace r3 := r3.ext hE); (try replace r4 := r4.ext hE); (try replace r5 := r5.ext hE); (try replace r6 := r6.ext hE); clear hE
    go_wp2_with ((first | (refine wpList_load_blk (by rfl) 29 _ rfl rfl h1 Tryz.underlying29 rfl (by kernel_rfl) ?_) | (refine wpList_load_blk (by rfl) 32 _ rfl rfl h2 Tryz.underlying32 rfl (by kernel_rfl) ?_))); refine (cft _ (hrow _ HE.out) (hmm _ HE.out)).mono ?_; rintro e w' ⟨rfl, hE⟩; (try replace hb := hb.ext hE); (try replace hm := hm.ext hE); (try replace h1 := h1.ext hE); (try replace h2 := h2.ext hE); (try replace h4 := h4.ext hE); (try replace h5 := h5.ext hE); (try replace h6 := h6.ext hE); (try replace h7 := h7.ext hE); (try replace h8 := h8.ext hE); (try replace h9 := h9.ext hE); (try replace hM := hM.ext hE); (try replace hN := hN.ext hE); (try replace hO := hO.ext hE); (try replace HE := Lib.hid (HE.out.trans hE)); (try replace r0 := r0.ext hE); (try replace r1 := r1.ext hE); (try replace r2 := r2.ext hE); (try replace r3 := r3.ext hE); (try replace r4 := r4.ext hE); (try replace r5 := r5.ext hE); (try replace r6 := r6.ext hE); clear hE
    rw [hF]
    clear cft
    go_wp2_with (fail); refine (caw _ (hTE _ HE.out)).mono ?_; rintro e w' ⟨rfl, hE⟩; (try replace hb := hb.ext hE); (try replace hm := hm.ext hE); (try replace h1 := h1.ext hE); (try replace h2 := h2.ext hE); (try replace h4 := h4.ext hE); (try replace h5 := h5.ext hE); (try replace h6 := h6.ext hE); (try replace h7 := h7.ext hE); (try replace h8 := h8.ext hE); (try replace h9 := h9.ext hE); (try replace hM := hM.ext hE); (try replace hN := hN.ext hE); (try replace hO := hO.ext hE); (try replace HE := Lib.hid (HE.out.trans hE)); (try replace r0 := r0.ext hE); (try replace r1 := r1.ext hE); (try replace r2 := r2.ext hE); (try replace r3 := r3.ext hE); (try replace r4 := r4.ext hE); (try replace r5 := r5.ext hE); (try replace r6 := r6.ext hE); clear hE
    go_wp2
    go_ret
    exact ⟨rfl, HE.out⟩
  obtain ⟨h16, fr, f3, -⟩ := fit_h hF
  obtain ⟨frt, fsm, -⟩ := right_split fr
  have hMm : ∀ W : World, Ext w W → Mem W S B M d := fun W e => fit_m hF hC (hmm W e)
  have hM0 := hMm w (Ext.refl _)
  have hRL := hM0.rl
  have h8 := hM0.ok.mod8
  clear hM0
  obtain ⟨s, hs, -, cpk⟩ := pick_s (z : Int) (by omega) (by omega)
  obtain ⟨k, hk, hnk⟩ : ∃ k : Nat, k < 3 ∧ (n : Int) % 3 = (k : Int) := ⟨n % 3, by omega, by omega⟩
  have c1 := fun W r m t => acc16_c A h c S B M d k a s v fr hok hk a1 hs v1 W r m (by omega) t
  obtain ⟨i1, i2, i3, i4, i5, i6, i7⟩ := acc_right (k := k) fr hRL h8 a1 s v
  have hO := acc_ok (k := k) fr hok hRL h8 a1 s
  have hl1 := acc_len (h := h) (k := k) (a := a) hRL h8 s v
  have c2 := fun A4 c4 B4 d4 W r m t => acc16_c A4 (accH S M h k a s) c4 S B4 (accM S M h k a s v) d4 1 a s 0 i1 hO (by decide) a1 hs (by decide) W r m (by omega) t
  have crt := fun A4 c4 W r t => right16_c A4 (accH S M h k a s) c4 W hO r t
  have csm := fun A4 c4 W r q => rsame16_c A4 A (accH S M h k a s) h c4 c (by rw [i6]; omega) (by omega) W r q
  rw [i1] at crt
  have hft := fun hb => acc_fault (S := S) (M := M) (h := h) (a := a) (s := s) hk hb v
  have hbk : k = 2 → h.sp.md ≠ 8 → (accR S M h k a s).f.b = false → accR S (accM S M h k a s v) (accH S M h k a s) 1 a s = ⟨v % 256 ^ s, ⟨false, 0, 0⟩⟩ := fun e hoff hf => by subst e; exact acc_back (S := S) (M := M) (h := h) (a := a) (s := s) hs hoff v hf
  have clw := fun W => low_x v s v1 hs W
  have hlw : lowM v s = v % 256 ^ s := by unfold lowM; rfl
  rw [hlw] at clw
  have q0 : ∀ w, (binOp .neq 27 (.agg (spC (accH S M h k a s).sp)) (.agg (spC h.sp))).run Tryz.prog w = .ok (.bool false) w := fun w => by rw [i2]; exact run_b (neq_sp w _ _) (dec_nots _)
  have I3 := Lib.hid i3
  have I4 := Lib.hid i4
  have I5 := Lib.hid i5
  unfold AccT at c1 c2
  clear hO hl1 hRL h8 hs f3 i1 i2 i3 i4 i5 i6 i7
  simp only [← hnk] at c1
  generalize accR S (accM S M h k a s v) (accH S M h k a s) 1 a s = R2 at *
  generalize accM S (accM S M h k a s v) (accH S M h k a s) 1 a s 0 = M2 at *
  generalize accH S (accM S M h k a s v) (accH S M h k a s) 1 a s = X2 at *
  generalize accH S M h k a s = X1 at *
  generalize accM S M h k a s v = M1 at *
  generalize accR S M h k a s = R1 at *
  generalize v % 256 ^ s = lv at *
  clear hlw
  cases hb : R1.f.b
  · clear hft csm
    by_cases hk2 : k = 2
    case neg =>
      have dk : ((n : Int) % 3 != 2) = true := by simp; omega
      clear hbk c2 clw hk2 hk hnk
      go_enter Tryz.func4, Tryz.ntmps4
      go_wp2_with (fail); refine (caw _ (hTE _ HE.out)).mono ?_; rintro e w' ⟨rfl, hE⟩; (try replace hb := hb.ext hE); (try replace hm := hm.ext hE); (try replace h1 := h1.ext hE); (try replace h2 := h2.ext hE); (try replace h4 := h4.ext hE); (try replace h5 := h5.ext hE); (try replace h6 := h6.ext hE); (try replace h7 := h7.ext hE); (try replace h8 := h8.ext hE); (try replace h9 := h9.ext hE); (try replace hM := hM.ext hE); (try replace hN := hN.ext hE); (try replace hO := hO.ext hE); (try replace HE := Lib.hid (HE.out.trans hE)); (try replace r0 := r0.ext hE); (try replace r1 := r1.ext hE); (try replace r2 := r2.ext hE); (try replace r3 := r3.ext hE); (try replace r4 := r4.ext hE); (try replace r5 := r5.ext hE); (try replace r6 := r6.ext hE); clear hE
      go_wp2_with ((first | (refine wpList_load_blk (by rfl) 29 _ rfl rfl h1 Tryz.underlying29 rfl (by kernel_rfl) ?_) | (refine wpList_load_blk (by rfl) 32 _ rfl rfl h2 Tryz.underlying32 rfl (by kernel_rfl) ?_))); refine (cft _ (hrow _ HE.out) (hmm _ HE.out)).mono ?_; rintro e w' ⟨rfl, hE⟩; (try replace hb := hb.ext hE); (try replace hm := hm.ext hE); (try replace h1 := h1.ext hE); (try replace h2 := h2.ext hE); (try replace h4 := h4.ext hE); (try replace h5 := h5.ext hE); (try replace h6 := h6.ext hE); (try replace h7 := h7.ext hE); (try replace h8 := h8.ext hE); (try replace h9 := h9.ext hE); (try replace hM := hM.ext hE); (try replace hN := hN.ext hE); (try replace hO := hO.ext hE); (try replace HE := Lib.hid (HE.out.trans hE)); (try replace r0 := r0.ext hE); (try replace r1 := r1.ext hE); (try replace r2 := r2.ext hE); (try replace r3 := r3.ext hE); (try replace r4 := r4.ext hE); (try replace r5 := r5.ext hE); (try replace r6 := r6.ext hE); clear hE
      rw [hF]
      clear cft
      go_wp2_with fail
      refine (cpk _).mono ?_
      rintro r5 w' ⟨rfl, hE⟩
      (try replace hb := hb.ext hE); (try replace hm := hm.ext hE); (try replace h1 := h1.ext hE); (try replace h2 := h2.ext hE); (try replace h4 := h4.ext hE); (try replace h5 := h5.ext hE); (try replace h6 := h6.ext hE); (try replace h7 := h7.ext hE); (try replace h8 := h8.ext hE); (try replace h9 := h9.ext hE); (try replace hM := hM.ext hE); (try replace hN := hN.ext hE); (try replace hO := hO.ext hE); (try replace HE := Lib.hid (HE.out.trans hE)); (try replace r0 := r0.ext hE); (try replace r1 := r1.ext hE); (try replace r2 := r2.ext hE); (try replace r3 := r3.ext hE); (try replace r4 := r4.ext hE); (try replace r5 := r5.ext hE); (try replace r6 := r6.ext hE)
      clear hE cpk
      go_wp2_with ((first | (refine wpList_load_blk (by rfl) 29 _ rfl rfl h1 Tryz.underlying29 rfl (by kernel_rfl) ?_) | (refine wpList_load_blk (by rfl) 32 _ rfl rfl h2 Tryz.underlying32 rfl (by kernel_rfl) ?_))); refine (c1 _ (hrow _ HE.out) (hMm _ HE.out) (hTE _ HE.out)).mono ?_; rintro e w' ⟨A1, B1, cc1, dd1, rfl, r1, hM, hE⟩; (try replace hb := hb.ext hE); (try replace hm := hm.ext hE); (try replace h1 := h1.ext hE); (try replace h2 := h2.ext hE); (try replace h4 := h4.ext hE); (try replace h5 := h5.ext hE); (try replace h6 := h6.ext hE); (try replace h7 := h7.ext hE); (try replace h8 := h8.ext hE); (try replace h9 := h9.ext hE); (try replace hM := hM.ext hE); (try replace hN := hN.ext hE); (try replace hO := hO.ext hE); (try replace HE := Lib.hid (HE.out.trans hE)); (try replace r0 := r0.ext hE); (try replace r1 := r1.ext hE); (try replace r2 := r2.ext hE); (try replace r3 := r3.ext hE); (try replace r4 := r4.ext hE); (try replace r5 := r5.ext hE); (try replace r6 := r6.ext hE); clear hE
      clear c1
      obtain ⟨zz1, zz2, zz3, hE, h4, h5, h6⟩ := nh3 w' (hrC ⟨A1, cc1, X1⟩) #[.int .u64 (S : Int), .slice B1 M1.length dd1] (rsC R1); (try replace hb := hb.ext hE); (try replace hm := hm.ext hE); (try replace h1 := h1.ext hE); (try replace h2 := h2.ext hE); (try replace h4 := h4.ext hE); (try replace h5 := h5.ext hE); (try replace h6 := h6.ext hE); (try replace h7 := h7.ext hE); (try replace h8 := h8.ext hE); (try replace h9 := h9.ext hE); (try replace hM := hM.ext hE); (try replace hN := hN.ext hE); (try replace hO := hO.ext hE); (try replace HE := Lib.hid (HE.out.trans hE)); (try replace r0 := r0.ext hE); (try replace r1 := r1.ext hE); (try replace r2 := r2.ext hE); (try replace r3 := r3.ext hE); (try replace r4 := r4.ext hE); (try replace r5 := r5.ext hE); (try replace r6 := r6.ext hE); clear hE
      go_upto_region 6 with (first | (refine wpList_store_blk rfl 29 _ _ rfl rfl rfl zz1 (hr_info _) (by simp [hrC_size]) (hrC_one _) ?_) | (refine wpList_store_blk rfl 32 _ _ rfl rfl rfl zz2 (by kernel_rfl) (by rfl) (by simp [Value.oneCell']) ?_) | ((refine wpList_store_blk rfl 39 _ _ rfl rfl rfl zz3 (rs_info _) (by simp [rsC_size]) (rsC_one _) ?_); clear zz1 zz2 zz3; generalize (((((w'.alloc (.cells #[.slice none 0 0, .int .u64 0, .int .u64 0, .int .u64 0, .int .i64 0, .bool false, .bool false, .int .i64 0] 29)).alloc (.cells #[.int .u64 0, .slice none 0 0] 32)).alloc (.cells #[.int .u64 0, .bool false, .int .i64 0, .int .u64 0] 39)).setRow w'.heap.size (hrC ⟨A1, cc1, X1⟩)).setRow (w'.heap.size + 1) #[.int .u64 (S : Int), .slice B1 M1.length dd1]).setRow (w'.heap.size + 1 + 1) (rsC R1) = X at *))
      simp only [Act.put, List.setIfInBounds_toArray, List.set_cons_zero, List.set_cons_succ]
      generalize w'.heap.size = g4 at *
      generalize w.heap.size = g0 at *
      have x4 := h4.hr.pr
      have x5 := h4.hr.su
      have x6 := h4.hr.mx
      rw [I3.out] at x4
      rw [I4.out] at x5
      rw [I5.out] at x6
      have y4 := h1.hr.pr
      have y5 := h1.hr.su
      have y6 := h1.hr.mx
      go_wp2_with ((first | (refine wpList_load_part (by rfl) 27 _ rfl rfl h4 (hrC_sp A1 cc1 X1) Tryz.underlying27 rfl (sp_info _) ?_) | (refine wpList_load_part (by rfl) 27 _ rfl rfl h1 (hrC_sp A c h) Tryz.underlying27 rfl (sp_info _) ?_) | (refine wpList_cmp (op := .neq) (by rfl) 27 rfl rfl rfl (sp_guard) (q0) ?_) | (refine wpList_load_blk (by rfl) 29 _ rfl rfl h4 Tryz.underlying29 rfl (by kernel_rfl) ?_))); refine (crt _ _ _ r1 (hTE _ HE.out).s).mono ?_; rintro e w' ⟨rfl, hE⟩; (try replace hb := hb.ext hE); (try replace hm := hm.ext hE); (try replace h1 := h1.ext hE); (try replace h2 := h2.ext hE); (try replace h4 := h4.ext hE); (try replace h5 := h5.ext hE); (try replace h6 := h6.ext hE); (try replace h7 := h7.ext hE); (try replace h8 := h8.ext hE); (try replace h9 := h9.ext hE); (try replace hM := hM.ext hE); (try replace hN := hN.ext hE); (try replace hO := hO.ext hE); (try replace HE := Lib.hid (HE.out.trans hE)); (try replace r0 := r0.ext hE); (try replace r1 := r1.ext hE); (try replace r2 := r2.ext hE); (try replace r3 := r3.ext hE); (try replace r4 := r4.ext hE); (try replace r5 := r5.ext hE); (try replace r6 := r6.ext hE); clear hE
      clear x4 x5 x6 y4 y5 y6 q0 crt
      go_wp2_with ((refine wpList_load_blk (by rfl) 32 _ rfl rfl h5 Tryz.underlying32 rfl (by kernel_rfl) ?_)); refine (rright_x hM).mono ?_; rintro e w' ⟨rfl, hE⟩; (try replace hb := hb.ext hE); (try replace hm := hm.ext hE); (try replace h1 := h1.ext hE); (try replace h2 := h2.ext hE); (try replace h4 := h4.ext hE); (try replace h5 := h5.ext hE); (try replace h6 := h6.ext hE); (try replace h7 := h7.ext hE); (try replace h8 := h8.ext hE); (try replace h9 := h9.ext hE); (try replace hM := hM.ext hE); (try replace hN := hN.ext hE); (try replace hO := hO.ext hE); (try replace HE := Lib.hid (HE.out.trans hE)); (try replace r0 := r0.ext hE); (try replace r1 := r1.ext hE); (try replace r2 := r2.ext hE); (try replace r3 := r3.ext hE); (try replace r4 := r4.ext hE); (try replace r5 := r5.ext hE); (try replace r6 := r6.ext hE); clear hE
      have x8 := (h5.cell 0)
      have y8 := (h2.cell 0)
      simp only [List.getElem?_toArray, List.getElem?_cons_zero] at x8 y8
      have z1 := rng_cell h6.rs_f 0 (ftC_0 R1.f)
      rw [hb] at z1
      go_wp2
      go_ret
      exact ⟨rfl, HE.out⟩
    case pos =>
      have dk : ((n : Int) % 3 != 2) = false := by simp; omega
      rcases sm_on fsm with hmd | hmd
      · have dm : ((h.sp.md : Int) != 0) = false := by rw [hmd]; rfl
        have HR := Lib.hid (hbk hk2 (by omega) hb)
        clear hbk hk2 hk hnk
        go_enter Tryz.func4, Tryz.ntmps4
        go_wp2_with (fail); refine (caw _ (hTE _ HE.out)).mono ?_; rintro e w' ⟨rfl, hE⟩; (try replace hb := hb.ext hE); (try replace hm := hm.ext hE); (try replace h1 := h1.ext hE); (try replace h2 := h2.ext hE); (try replace h4 := h4.ext hE); (try replace h5 := h5.ext hE); (try replace h6 := h6.ext hE); (try replace h7 := h7.ext hE); (try replace h8 := h8.ext hE); (try replace h9 := h9.ext hE); (try replace hM := hM.ext hE); (try replace hN := hN.ext hE); (try replace hO := hO.ext hE); (try replace HE := Lib.hid (HE.out.trans hE)); (try replace r0 := r0.ext hE); (try replace r1 := r1.ext hE); (try replace r2 := r2.ext hE); (try replace r3 := r3.ext hE); (try replace r4 := r4.ext hE); (try replace r5 := r5.ext hE); (try replace r6 := r6.ext hE); clear hE
        go_wp2_with ((first | (refine wpList_load_blk (by rfl) 29 _ rfl rfl h1 Tryz.underlying29 rfl (by kernel_rfl) ?_) | (refine wpList_load_blk (by rfl) 32 _ rfl rfl h2 Tryz.underlying32 rfl (by kernel_rfl) ?_))); refine (cft _ (hrow _ HE.out) (hmm _ HE.out)).mono ?_; rintro e w' ⟨rfl, hE⟩; (try replace hb := hb.ext hE); (try replace hm := hm.ext hE); (try replace h1 := h1.ext hE); (try replace h2 := h2.ext hE); (try replace h4 := h4.ext hE); (try replace h5 := h5.ext hE); (try replace h6 := h6.ext hE); (try replace h7 := h7.ext hE); (try replace h8 := h8.ext hE); (try replace h9 := h9.ext hE); (try replace hM := hM.ext hE); (try replace hN := hN.ext hE); (try replace hO := hO.ext hE); (try replace HE := Lib.hid (HE.out.trans hE)); (try replace r0 := r0.ext hE); (try replace r1 := r1.ext hE); (try replace r2 := r2.ext hE); (try replace r3 := r3.ext hE); (try replace r4 := r4.ext hE); (try replace r5 := r5.ext hE); (try replace r6 := r6.ext hE); clear hE
        rw [hF]
        clear cft
        go_wp2_with fail
        refine (cpk _).mono ?_
        rintro r5 w' ⟨rfl, hE⟩
        (try replace hb := hb.ext hE); (try replace hm := hm.ext hE); (try replace h1 := h1.ext hE); (try replace h2 := h2.ext hE); (try replace h4 := h4.ext hE); (try replace h5 := h5.ext hE); (try replace h6 := h6.ext hE); (try replace h7 := h7.ext hE); (try replace h8 := h8.ext hE); (try replace h9 := h9.ext hE); (try replace hM := hM.ext hE); (try replace hN := hN.ext hE); (try replace hO := hO.ext hE); (try replace HE := Lib.hid (HE.out.trans hE)); (try replace r0 := r0.ext hE); (try replace r1 := r1.ext hE); (try replace r2 := r2.ext hE); (try replace r3 := r3.ext hE); (try replace r4 := r4.ext hE); (try replace r5 := r5.ext hE); (try replace r6 := r6.ext hE)
        clear hE cpk
        go_wp2_with ((first | (refine wpList_load_blk (by rfl) 29 _ rfl rfl h1 Tryz.underlying29 rfl (by kernel_rfl) ?_) | (refine wpList_load_blk (by rfl) 32 _ rfl rfl h2 Tryz.underlying32 rfl (by kernel_rfl) ?_))); refine (c1 _ (hrow _ HE.out) (hMm _ HE.out) (hTE _ HE.out)).mono ?_; rintro e w' ⟨A1, B1, cc1, dd1, rfl, r1, hM, hE⟩; (try replace hb := hb.ext hE); (try replace hm := hm.ext hE); (try replace h1 := h1.ext hE); (try replace h2 := h2.ext hE); (try replace h4 := h4.ext hE); (try replace h5 := h5.ext hE); (try replace h6 := h6.ext hE); (try replace h7 := h7.ext hE); (try replace h8 := h8.ext hE); (try replace h9 := h9.ext hE); (try replace hM := hM.ext hE); (try replace hN := hN.ext hE); (try replace hO := hO.ext hE); (try replace HE := Lib.hid (HE.out.trans hE)); (try replace r0 := r0.ext hE); (try replace r1 := r1.ext hE); (try replace r2 := r2.ext hE); (try replace r3 := r3.ext hE); (try replace r4 := r4.ext hE); (try replace r5 := r5.ext hE); (try replace r6 := r6.ext hE); clear hE
        clear c1
        obtain ⟨zz1, zz2, zz3, hE, h4, h5, h6⟩ := nh3 w' (hrC ⟨A1, cc1, X1⟩) #[.int .u64 (S : Int), .slice B1 M1.length dd1] (rsC R1); (try replace hb := hb.ext hE); (try replace hm := hm.ext hE); (try replace h1 := h1.ext hE); (try replace h2 := h2.ext hE); (try replace h4 := h4.ext hE); (try replace h5 := h5.ext hE); (try replace h6 := h6.ext hE); (try replace h7 := h7.ext hE); (try replace h8 := h8.ext hE); (try replace h9 := h9.ext hE); (try replace hM := hM.ext hE); (try replace hN := hN.ext hE); (try replace hO := hO.ext hE); (try replace HE := Lib.hid (HE.out.trans hE)); (try replace r0 := r0.ext hE); (try replace r1 := r1.ext hE); (try replace r2 := r2.ext hE); (try replace r3 := r3.ext hE); (try replace r4 := r4.ext hE); (try replace r5 := r5.ext hE); (try replace r6 := r6.ext hE); clear hE
        go_upto_region 6 with (first | (refine wpList_store_blk rfl 29 _ _ rfl rfl rfl zz1 (hr_info _) (by simp [hrC_size]) (hrC_one _) ?_) | (refine wpList_store_blk rfl 32 _ _ rfl rfl rfl zz2 (by kernel_rfl) (by rfl) (by simp [Value.oneCell']) ?_) | ((refine wpList_store_blk rfl 39 _ _ rfl rfl rfl zz3 (rs_info _) (by simp [rsC_size]) (rsC_one _) ?_); clear zz1 zz2 zz3; generalize (((((w'.alloc (.cells #[.slice none 0 0, .int .u64 0, .int .u64 0, .int .u64 0, .int .i64 0, .bool false, .bool false, .int .i64 0] 29)).alloc (.cells #[.int .u64 0, .slice none 0 0] 32)).alloc (.cells #[.int .u64 0, .bool false, .int .i64 0, .int .u64 0] 39)).setRow w'.heap.size (hrC ⟨A1, cc1, X1⟩)).setRow (w'.heap.size + 1) #[.int .u64 (S : Int), .slice B1 M1.length dd1]).setRow (w'.heap.size + 1 + 1) (rsC R1) = X at *))
        simp only [Act.put, List.setIfInBounds_toArray, List.set_cons_zero, List.set_cons_succ]
        generalize w'.heap.size = g4 at *
        generalize w.heap.size = g0 at *
        have x4 := h4.hr.pr
        have x5 := h4.hr.su
        have x6 := h4.hr.mx
        rw [I3.out] at x4
        rw [I4.out] at x5
        rw [I5.out] at x6
        have y4 := h1.hr.pr
        have y5 := h1.hr.su
        have y6 := h1.hr.mx
        go_wp2_with ((first | (refine wpList_load_part (by rfl) 27 _ rfl rfl h4 (hrC_sp A1 cc1 X1) Tryz.underlying27 rfl (sp_info _) ?_) | (refine wpList_load_part (by rfl) 27 _ rfl rfl h1 (hrC_sp A c h) Tryz.underlying27 rfl (sp_info _) ?_) | (refine wpList_cmp (op := .neq) (by rfl) 27 rfl rfl rfl (sp_guard) (q0) ?_) | (refine wpList_load_blk (by rfl) 29 _ rfl rfl h4 Tryz.underlying29 rfl (by kernel_rfl) ?_))); refine (crt _ _ _ r1 (hTE _ HE.out).s).mono ?_; rintro e w' ⟨rfl, hE⟩; (try replace hb := hb.ext hE); (try replace hm := hm.ext hE); (try replace h1 := h1.ext hE); (try replace h2 := h2.ext hE); (try replace h4 := h4.ext hE); (try replace h5 := h5.ext hE); (try replace h6 := h6.ext hE); (try replace h7 := h7.ext hE); (try replace h8 := h8.ext hE); (try replace h9 := h9.ext hE); (try replace hM := hM.ext hE); (try replace hN := hN.ext hE); (try replace hO := hO.ext hE); (try replace HE := Lib.hid (HE.out.trans hE)); (try replace r0 := r0.ext hE); (try replace r1 := r1.ext hE); (try replace r2 := r2.ext hE); (try replace r3 := r3.ext hE); (try replace r4 := r4.ext hE); (try replace r5 := r5.ext hE); (try replace r6 := r6.ext hE); clear hE
        clear x4 x5 x6 y4 y5 y6 q0 crt
        go_wp2_with ((refine wpList_load_blk (by rfl) 32 _ rfl rfl h5 Tryz.underlying32 rfl (by kernel_rfl) ?_)); refine (rright_x hM).mono ?_; rintro e w' ⟨rfl, hE⟩; (try replace hb := hb.ext hE); (try replace hm := hm.ext hE); (try replace h1 := h1.ext hE); (try replace h2 := h2.ext hE); (try replace h4 := h4.ext hE); (try replace h5 := h5.ext hE); (try replace h6 := h6.ext hE); (try replace h7 := h7.ext hE); (try replace h8 := h8.ext hE); (try replace h9 := h9.ext hE); (try replace hM := hM.ext hE); (try replace hN := hN.ext hE); (try replace hO := hO.ext hE); (try replace HE := Lib.hid (HE.out.trans hE)); (try replace r0 := r0.ext hE); (try replace r1 := r1.ext hE); (try replace r2 := r2.ext hE); (try replace r3 := r3.ext hE); (try replace r4 := r4.ext hE); (try replace r5 := r5.ext hE); (try replace r6 := r6.ext hE); clear hE
        have x8 := (h5.cell 0)
        have y8 := (h2.cell 0)
        simp only [List.getElem?_toArray, List.getElem?_cons_zero] at x8 y8
        have z1 := rng_cell h6.rs_f 0 (ftC_0 R1.f)
        rw [hb] at z1
        have x1 := h1.hr.md
        go_wp2_with (first | (refine wpList_load_blk (by rfl) 29 _ rfl rfl h4 Tryz.underlying29 rfl (by kernel_rfl) ?_) | (refine wpList_load_blk (by rfl) 32 _ rfl rfl h5 Tryz.underlying32 rfl (by kernel_rfl) ?_))
        refine (c2 _ _ _ _ _ r1 hM (hTE _ HE.out)).mono ?_
        rintro r5 w' ⟨A2, B2, cc2, dd2, rfl, r2, hN, hE⟩
        clear x8 y8 z1 x1
        (try replace hb := hb.ext hE); (try replace hm := hm.ext hE); (try replace h1 := h1.ext hE); (try replace h2 := h2.ext hE); (try replace h4 := h4.ext hE); (try replace h5 := h5.ext hE); (try replace h6 := h6.ext hE); (try replace h7 := h7.ext hE); (try replace h8 := h8.ext hE); (try replace h9 := h9.ext hE); (try replace hM := hM.ext hE); (try replace hN := hN.ext hE); (try replace hO := hO.ext hE); (try replace HE := Lib.hid (HE.out.trans hE)); (try replace r0 := r0.ext hE); (try replace r1 := r1.ext hE); (try replace r2 := r2.ext hE); (try replace r3 := r3.ext hE); (try replace r4 := r4.ext hE); (try replace r5 := r5.ext hE); (try replace r6 := r6.ext hE)
        clear hE c2 r2 hN
        obtain ⟨zz1, zz2, zz3, hE, h7, h8, h9⟩ := nh3 w' (hrC ⟨A2, cc2, X2⟩) #[.int .u64 (S : Int), .slice B2 M2.length dd2] (rsC R2); (try replace hb := hb.ext hE); (try replace hm := hm.ext hE); (try replace h1 := h1.ext hE); (try replace h2 := h2.ext hE); (try replace h4 := h4.ext hE); (try replace h5 := h5.ext hE); (try replace h6 := h6.ext hE); (try replace h7 := h7.ext hE); (try replace h8 := h8.ext hE); (try replace h9 := h9.ext hE); (try replace hM := hM.ext hE); (try replace hN := hN.ext hE); (try replace hO := hO.ext hE); (try replace HE := Lib.hid (HE.out.trans hE)); (try replace r0 := r0.ext hE); (try replace r1 := r1.ext hE); (try replace r2 := r2.ext hE); (try replace r3 := r3.ext hE); (try replace r4 := r4.ext hE); (try replace r5 := r5.ext hE); (try replace r6 := r6.ext hE); clear hE
        go_upto_region 14 with (first | (refine wpList_store_blk rfl 29 _ _ rfl rfl rfl zz1 (hr_info _) (by simp [hrC_size]) (hrC_one _) ?_) | (refine wpList_store_blk rfl 32 _ _ rfl rfl rfl zz2 (by kernel_rfl) (by rfl) (by simp [Value.oneCell']) ?_) | ((refine wpList_store_blk rfl 39 _ _ rfl rfl rfl zz3 (rs_info _) (by simp [rsC_size]) (rsC_one _) ?_); clear zz1 zz2 zz3; generalize (((((w'.alloc (.cells #[.slice none 0 0, .int .u64 0, .int .u64 0, .int .u64 0, .int .i64 0, .bool false, .bool false, .int .i64 0] 29)).alloc (.cells #[.int .u64 0, .slice none 0 0] 32)).alloc (.cells #[.int .u64 0, .bool false, .int .i64 0, .int .u64 0] 39)).setRow w'.heap.size (hrC ⟨A2, cc2, X2⟩)).setRow (w'.heap.size + 1) #[.int .u64 (S : Int), .slice B2 M2.length dd2]).setRow (w'.heap.size + 1 + 1) (rsC R2) = X at *))
        simp only [Act.put, List.setIfInBounds_toArray, List.set_cons_zero, List.set_cons_succ]
        (try replace hb := Blk.drew hb); (try replace hm := Blk.drew hm); (try replace h1 := Blk.drew h1); (try replace h2 := Blk.drew h2); (try replace h4 := Blk.drew h4); (try replace h5 := Blk.drew h5); (try replace h6 := Blk.drew h6); (try replace h7 := Blk.drew h7); (try replace h8 := Blk.drew h8); (try replace h9 := Blk.drew h9); replace HE := Lib.hid HE.out.drew
        refine wp_region_seq [(0, false), (1, false), (2, false), (3, true), (4, false), (5, false), (6, false)] Ext (by kernel_rfl) (by kernel_rfl) Ext.refl (fun _ _ _ => Ext.trans) ?_; simp only [List.map, nth_z, nth_s]
        refine seq_load rfl rfl (fun x hx => Blk.ext (h9) hx) rfl Tryz.underlying39 (rs_info _) (by rfl) ?_; intro K hK; simp only [Act.put, List.setIfInBounds_toArray, List.set_cons_zero, List.set_cons_succ]; refine hK _ ?_; clear hK K
        (repeat (first | (refine seq_skip (by rfl) ?_; intro K hK; simp only [Act.put, List.setIfInBounds_toArray, List.set_cons_zero, List.set_cons_succ]; refine hK _ ?_; clear hK K) | (refine seq_skipc (by rfl) ?_; intro K hK; simp only [Act.put, List.setIfInBounds_toArray, List.set_cons_zero, List.set_cons_succ]; refine hK _ ?_; clear hK K) | (refine seq_read (by rfl) (by rfl) ?_; intro K hK; go_big_quiet_op; first | go_big_quiet_on | (refine ⟨_, fun _ _ => rfl, ?_⟩; go_big_quiet_on))))
        refine seq_call (clw _) rfl Tryz.func19 (by kernel_rfl) (by kernel_rfl) (by rfl) (by rfl) ?_; intro K hK; rintro e w' ⟨rfl, hE⟩; refine ⟨_, rfl, hE, ?_⟩; simp only [Act.put, List.setIfInBounds_toArray, List.set_cons_zero, List.set_cons_succ]; refine hK _ _ ?_; clear hK K; (try replace hb := hb.ext hE); (try replace hm := hm.ext hE); (try replace h1 := h1.ext hE); (try replace h2 := h2.ext hE); (try replace h4 := h4.ext hE); (try replace h5 := h5.ext hE); (try replace h6 := h6.ext hE); (try replace h7 := h7.ext hE); (try replace h8 := h8.ext hE); (try replace h9 := h9.ext hE); (try replace hM := hM.ext hE); (try replace hN := hN.ext hE); (try replace hO := hO.ext hE); (try replace HE := Lib.hid (HE.out.trans hE))
        clear hE clw
        refine seq_build_as rfl ((rs_build0 lv)) (by rfl) ?_; intro K hK; simp only [Act.put, List.setIfInBounds_toArray, List.set_cons_zero, List.set_cons_succ]; refine hK _ ?_; clear hK K
        rw [HR.out]
        refine seq_cmp rfl rfl rfl (rs_guard) ((fun w => run_b (eql_rs w _ _) (dec_same _))) (by rfl) ?_; intro K hK; simp only [Act.put, List.setIfInBounds_toArray, List.set_cons_zero, List.set_cons_succ]; refine hK _ ?_; clear hK K
        (repeat (first | (refine seq_skip (by rfl) ?_; intro K hK; simp only [Act.put, List.setIfInBounds_toArray, List.set_cons_zero, List.set_cons_succ]; refine hK _ ?_; clear hK K) | (refine seq_skipc (by rfl) ?_; intro K hK; simp only [Act.put, List.setIfInBounds_toArray, List.set_cons_zero, List.set_cons_succ]; refine hK _ ?_; clear hK K) | (refine seq_read (by rfl) (by rfl) ?_; intro K hK; go_big_quiet_op; first | go_big_quiet_on | (refine ⟨_, fun _ _ => rfl, ?_⟩; go_big_quiet_on))))
        refine seq_done ?_
        go_wp2
        go_ret
        exact ⟨rfl, HE.out⟩
      · have dm : ((h.sp.md : Int) != 0) = true := by rw [hmd]; rfl
        clear hbk c2 clw hk2 hk hnk
        go_enter Tryz.func4, Tryz.ntmps4
        go_wp2_with (fail); refine (caw _ (hTE _ HE.out)).mono ?_; rintro e w' ⟨rfl, hE⟩; (try replace hb := hb.ext hE); (try replace hm := hm.ext hE); (try replace h1 := h1.ext hE); (try replace h2 := h2.ext hE); (try replace h4 := h4.ext hE); (try replace h5 := h5.ext hE); (try replace h6 := h6.ext hE); (try replace h7 := h7.ext hE); (try replace h8 := h8.ext hE); (try replace h9 := h9.ext hE); (try replace hM := hM.ext hE); (try replace hN := hN.ext hE); (try replace hO := hO.ext hE); (try replace HE := Lib.hid (HE.out.trans hE)); (try replace r0 := r0.ext hE); (try replace r1 := r1.ext hE); (try replace r2 := r2.ext hE); (try replace r3 := r3.ext hE); (try replace r4 := r4.ext hE); (try replace r5 := r5.ext hE); (try replace r6 := r6.ext hE); clear hE
        go_wp2_with ((first | (refine wpList_load_blk (by rfl) 29 _ rfl rfl h1 Tryz.underlying29 rfl (by kernel_rfl) ?_) | (refine wpList_load_blk (by rfl) 32 _ rfl rfl h2 Tryz.underlying32 rfl (by kernel_rfl) ?_))); refine (cft _ (hrow _ HE.out) (hmm _ HE.out)).mono ?_; rintro e w' ⟨rfl, hE⟩; (try replace hb := hb.ext hE); (try replace hm := hm.ext hE); (try replace h1 := h1.ext hE); (try replace h2 := h2.ext hE); (try replace h4 := h4.ext hE); (try replace h5 := h5.ext hE); (try replace h6 := h6.ext hE); (try replace h7 := h7.ext hE); (try replace h8 := h8.ext hE); (try replace h9 := h9.ext hE); (try replace hM := hM.ext hE); (try replace hN := hN.ext hE); (try replace hO := hO.ext hE); (try replace HE := Lib.hid (HE.out.trans hE)); (try replace r0 := r0.ext hE); (try replace r1 := r1.ext hE); (try replace r2 := r2.ext hE); (try replace r3 := r3.ext hE); (try replace r4 := r4.ext hE); (try replace r5 := r5.ext hE); (try replace r6 := r6.ext hE); clear hE
        rw [hF]
        clear cft
        go_wp2_with fail
        refine (cpk _).mono ?_
        rintro r5 w' ⟨rfl, hE⟩
        (try replace hb := hb.ext hE); (try replace hm := hm.ext hE); (try replace h1 := h1.ext hE); (try replace h2 := h2.ext hE); (try replace h4 := h4.ext hE); (try replace h5 := h5.ext hE); (try replace h6 := h6.ext hE); (try replace h7 := h7.ext hE); (try replace h8 := h8.ext hE); (try replace h9 := h9.ext hE); (try replace hM := hM.ext hE); (try replace hN := hN.ext hE); (try replace hO := hO.ext hE); (try replace HE := Lib.hid (HE.out.trans hE)); (try replace r0 := r0.ext hE); (try replace r1 := r1.ext hE); (try replace r2 := r2.ext hE); (try replace r3 := r3.ext hE); (try replace r4 := r4.ext hE); (try replace r5 := r5.ext hE); (try replace r6 := r6.ext hE)
        clear hE cpk
        go_wp2_with ((first | (refine wpList_load_blk (by rfl) 29 _ rfl rfl h1 Tryz.underlying29 rfl (by kernel_rfl) ?_) | (refine wpList_load_blk (by rfl) 32 _ rfl rfl h2 Tryz.underlying32 rfl (by kernel_rfl) ?_))); refine (c1 _ (hrow _ HE.out) (hMm _ HE.out) (hTE _ HE.out)).mono ?_; rintro e w' ⟨A1, B1, cc1, dd1, rfl, r1, hM, hE⟩; (try replace hb := hb.ext hE); (try replace hm := hm.ext hE); (try replace h1 := h1.ext hE); (try replace h2 := h2.ext hE); (try replace h4 := h4.ext hE); (try replace h5 := h5.ext hE); (try replace h6 := h6.ext hE); (try replace h7 := h7.ext hE); (try replace h8 := h8.ext hE); (try replace h9 := h9.ext hE); (try replace hM := hM.ext hE); (try replace hN := hN.ext hE); (try replace hO := hO.ext hE); (try replace HE := Lib.hid (HE.out.trans hE)); (try replace r0 := r0.ext hE); (try replace r1 := r1.ext hE); (try replace r2 := r2.ext hE); (try replace r3 := r3.ext hE); (try replace r4 := r4.ext hE); (try replace r5 := r5.ext hE); (try replace r6 := r6.ext hE); clear hE
        clear c1
        obtain ⟨zz1, zz2, zz3, hE, h4, h5, h6⟩ := nh3 w' (hrC ⟨A1, cc1, X1⟩) #[.int .u64 (S : Int), .slice B1 M1.length dd1] (rsC R1); (try replace hb := hb.ext hE); (try replace hm := hm.ext hE); (try replace h1 := h1.ext hE); (try replace h2 := h2.ext hE); (try replace h4 := h4.ext hE); (try replace h5 := h5.ext hE); (try replace h6 := h6.ext hE); (try replace h7 := h7.ext hE); (try replace h8 := h8.ext hE); (try replace h9 := h9.ext hE); (try replace hM := hM.ext hE); (try replace hN := hN.ext hE); (try replace hO := hO.ext hE); (try replace HE := Lib.hid (HE.out.trans hE)); (try replace r0 := r0.ext hE); (try replace r1 := r1.ext hE); (try replace r2 := r2.ext hE); (try replace r3 := r3.ext hE); (try replace r4 := r4.ext hE); (try replace r5 := r5.ext hE); (try replace r6 := r6.ext hE); clear hE
        go_upto_region 6 with (first | (refine wpList_store_blk rfl 29 _ _ rfl rfl rfl zz1 (hr_info _) (by simp [hrC_size]) (hrC_one _) ?_) | (refine wpList_store_blk rfl 32 _ _ rfl rfl rfl zz2 (by kernel_rfl) (by rfl) (by simp [Value.oneCell']) ?_) | ((refine wpList_store_blk rfl 39 _ _ rfl rfl rfl zz3 (rs_info _) (by simp [rsC_size]) (rsC_one _) ?_); clear zz1 zz2 zz3; generalize (((((w'.alloc (.cells #[.slice none 0 0, .int .u64 0, .int .u64 0, .int .u64 0, .int .i64 0, .bool false, .bool false, .int .i64 0] 29)).alloc (.cells #[.int .u64 0, .slice none 0 0] 32)).alloc (.cells #[.int .u64 0, .bool false, .int .i64 0, .int .u64 0] 39)).setRow w'.heap.size (hrC ⟨A1, cc1, X1⟩)).setRow (w'.heap.size + 1) #[.int .u64 (S : Int), .slice B1 M1.length dd1]).setRow (w'.heap.size + 1 + 1) (rsC R1) = X at *))
        simp only [Act.put, List.setIfInBounds_toArray, List.set_cons_zero, List.set_cons_succ]
        generalize w'.heap.size = g4 at *
        generalize w.heap.size = g0 at *
        have x4 := h4.hr.pr
        have x5 := h4.hr.su
        have x6 := h4.hr.mx
        rw [I3.out] at x4
        rw [I4.out] at x5
        rw [I5.out] at x6
        have y4 := h1.hr.pr
        have y5 := h1.hr.su
        have y6 := h1.hr.mx
        go_wp2_with ((first | (refine wpList_load_part (by rfl) 27 _ rfl rfl h4 (hrC_sp A1 cc1 X1) Tryz.underlying27 rfl (sp_info _) ?_) | (refine wpList_load_part (by rfl) 27 _ rfl rfl h1 (hrC_sp A c h) Tryz.underlying27 rfl (sp_info _) ?_) | (refine wpList_cmp (op := .neq) (by rfl) 27 rfl rfl rfl (sp_guard) (q0) ?_) | (refine wpList_load_blk (by rfl) 29 _ rfl rfl h4 Tryz.underlying29 rfl (by kernel_rfl) ?_))); refine (crt _ _ _ r1 (hTE _ HE.out).s).mono ?_; rintro e w' ⟨rfl, hE⟩; (try replace hb := hb.ext hE); (try replace hm := hm.ext hE); (try replace h1 := h1.ext hE); (try replace h2 := h2.ext hE); (try replace h4 := h4.ext hE); (try replace h5 := h5.ext hE); (try replace h6 := h6.ext hE); (try replace h7 := h7.ext hE); (try replace h8 := h8.ext hE); (try replace h9 := h9.ext hE); (try replace hM := hM.ext hE); (try replace hN := hN.ext hE); (try replace hO := hO.ext hE); (try replace HE := Lib.hid (HE.out.trans hE)); (try replace r0 := r0.ext hE); (try replace r1 := r1.ext hE); (try replace r2 := r2.ext hE); (try replace r3 := r3.ext hE); (try replace r4 := r4.ext hE); (try replace r5 := r5.ext hE); (try replace r6 := r6.ext hE); clear hE
        clear x4 x5 x6 y4 y5 y6 q0 crt
        go_wp2_with ((refine wpList_load_blk (by rfl) 32 _ rfl rfl h5 Tryz.underlying32 rfl (by kernel_rfl) ?_)); refine (rright_x hM).mono ?_; rintro e w' ⟨rfl, hE⟩; (try replace hb := hb.ext hE); (try replace hm := hm.ext hE); (try replace h1 := h1.ext hE); (try replace h2 := h2.ext hE); (try replace h4 := h4.ext hE); (try replace h5 := h5.ext hE); (try replace h6 := h6.ext hE); (try replace h7 := h7.ext hE); (try replace h8 := h8.ext hE); (try replace h9 := h9.ext hE); (try replace hM := hM.ext hE); (try replace hN := hN.ext hE); (try replace hO := hO.ext hE); (try replace HE := Lib.hid (HE.out.trans hE)); (try replace r0 := r0.ext hE); (try replace r1 := r1.ext hE); (try replace r2 := r2.ext hE); (try replace r3 := r3.ext hE); (try replace r4 := r4.ext hE); (try replace r5 := r5.ext hE); (try replace r6 := r6.ext hE); clear hE
        have x8 := (h5.cell 0)
        have y8 := (h2.cell 0)
        simp only [List.getElem?_toArray, List.getElem?_cons_zero] at x8 y8
        have z1 := rng_cell h6.rs_f 0 (ftC_0 R1.f)
        rw [hb] at z1
        have x1 := h1.hr.md
        go_wp2
        go_ret
        exact ⟨rfl, HE.out⟩
  · obtain ⟨g1, g2, g3⟩ := hft hb
    clear hft hbk c2 clw hnk hk
    by_cases hodd : R1.f.c = 1 ∨ R1.f.c = 5 ∨ R1.f.c = 7
    case pos =>
      clear csm g3
      rcases hodd with e | e | e
      · have t1 : (R1.f.c == 1) = true := by rw [e]; rfl
        have u1 : ((R1.v : Int) == 0) = true := by rw [g1]; rfl
        have u2 : ((R1.f.a : Int) == (a : Int)) = true := by rw [g2]; simp
        clear g1 g2
        go_enter Tryz.func4, Tryz.ntmps4
        go_wp2_with (fail); refine (caw _ (hTE _ HE.out)).mono ?_; rintro e w' ⟨rfl, hE⟩; (try replace hb := hb.ext hE); (try replace hm := hm.ext hE); (try replace h1 := h1.ext hE); (try replace h2 := h2.ext hE); (try replace h4 := h4.ext hE); (try replace h5 := h5.ext hE); (try replace h6 := h6.ext hE); (try replace h7 := h7.ext hE); (try replace h8 := h8.ext hE); (try replace h9 := h9.ext hE); (try replace hM := hM.ext hE); (try replace hN := hN.ext hE); (try replace hO := hO.ext hE); (try replace HE := Lib.hid (HE.out.trans hE)); (try replace r0 := r0.ext hE); (try replace r1 := r1.ext hE); (try replace r2 := r2.ext hE); (try replace r3 := r3.ext hE); (try replace r4 := r4.ext hE); (try replace r5 := r5.ext hE); (try replace r6 := r6.ext hE); clear hE
        go_wp2_with ((first | (refine wpList_load_blk (by rfl) 29 _ rfl rfl h1 Tryz.underlying29 rfl (by kernel_rfl) ?_) | (refine wpList_load_blk (by rfl) 32 _ rfl rfl h2 Tryz.underlying32 rfl (by kernel_rfl) ?_))); refine (cft _ (hrow _ HE.out) (hmm _ HE.out)).mono ?_; rintro e w' ⟨rfl, hE⟩; (try replace hb := hb.ext hE); (try replace hm := hm.ext hE); (try replace h1 := h1.ext hE); (try replace h2 := h2.ext hE); (try replace h4 := h4.ext hE); (try replace h5 := h5.ext hE); (try replace h6 := h6.ext hE); (try replace h7 := h7.ext hE); (try replace h8 := h8.ext hE); (try replace h9 := h9.ext hE); (try replace hM := hM.ext hE); (try replace hN := hN.ext hE); (try replace hO := hO.ext hE); (try replace HE := Lib.hid (HE.out.trans hE)); (try replace r0 := r0.ext hE); (try replace r1 := r1.ext hE); (try replace r2 := r2.ext hE); (try replace r3 := r3.ext hE); (try replace r4 := r4.ext hE); (try replace r5 := r5.ext hE); (try replace r6 := r6.ext hE); clear hE
        rw [hF]
        clear cft
        go_wp2_with fail
        refine (cpk _).mono ?_
        rintro r5 w' ⟨rfl, hE⟩
        (try replace hb := hb.ext hE); (try replace hm := hm.ext hE); (try replace h1 := h1.ext hE); (try replace h2 := h2.ext hE); (try replace h4 := h4.ext hE); (try replace h5 := h5.ext hE); (try replace h6 := h6.ext hE); (try replace h7 := h7.ext hE); (try replace h8 := h8.ext hE); (try replace h9 := h9.ext hE); (try replace hM := hM.ext hE); (try replace hN := hN.ext hE); (try replace hO := hO.ext hE); (try replace HE := Lib.hid (HE.out.trans hE)); (try replace r0 := r0.ext hE); (try replace r1 := r1.ext hE); (try replace r2 := r2.ext hE); (try replace r3 := r3.ext hE); (try replace r4 := r4.ext hE); (try replace r5 := r5.ext hE); (try replace r6 := r6.ext hE)
        clear hE cpk
        go_wp2_with ((first | (refine wpList_load_blk (by rfl) 29 _ rfl rfl h1 Tryz.underlying29 rfl (by kernel_rfl) ?_) | (refine wpList_load_blk (by rfl) 32 _ rfl rfl h2 Tryz.underlying32 rfl (by kernel_rfl) ?_))); refine (c1 _ (hrow _ HE.out) (hMm _ HE.out) (hTE _ HE.out)).mono ?_; rintro e w' ⟨A1, B1, cc1, dd1, rfl, r1, hM, hE⟩; (try replace hb := hb.ext hE); (try replace hm := hm.ext hE); (try replace h1 := h1.ext hE); (try replace h2 := h2.ext hE); (try replace h4 := h4.ext hE); (try replace h5 := h5.ext hE); (try replace h6 := h6.ext hE); (try replace h7 := h7.ext hE); (try replace h8 := h8.ext hE); (try replace h9 := h9.ext hE); (try replace hM := hM.ext hE); (try replace hN := hN.ext hE); (try replace hO := hO.ext hE); (try replace HE := Lib.hid (HE.out.trans hE)); (try replace r0 := r0.ext hE); (try replace r1 := r1.ext hE); (try replace r2 := r2.ext hE); (try replace r3 := r3.ext hE); (try replace r4 := r4.ext hE); (try replace r5 := r5.ext hE); (try replace r6 := r6.ext hE); clear hE
        clear c1
        obtain ⟨zz1, zz2, zz3, hE, h4, h5, h6⟩ := nh3 w' (hrC ⟨A1, cc1, X1⟩) #[.int .u64 (S : Int), .slice B1 M1.length dd1] (rsC R1); (try replace hb := hb.ext hE); (try replace hm := hm.ext hE); (try replace h1 := h1.ext hE); (try replace h2 := h2.ext hE); (try replace h4 := h4.ext hE); (try replace h5 := h5.ext hE); (try replace h6 := h6.ext hE); (try replace h7 := h7.ext hE); (try replace h8 := h8.ext hE); (try replace h9 := h9.ext hE); (try replace hM := hM.ext hE); (try replace hN := hN.ext hE); (try replace hO := hO.ext hE); (try replace HE := Lib.hid (HE.out.trans hE)); (try replace r0 := r0.ext hE); (try replace r1 := r1.ext hE); (try replace r2 := r2.ext hE); (try replace r3 := r3.ext hE); (try replace r4 := r4.ext hE); (try replace r5 := r5.ext hE); (try replace r6 := r6.ext hE); clear hE
        go_upto_region 6 with (first | (refine wpList_store_blk rfl 29 _ _ rfl rfl rfl zz1 (hr_info _) (by simp [hrC_size]) (hrC_one _) ?_) | (refine wpList_store_blk rfl 32 _ _ rfl rfl rfl zz2 (by kernel_rfl) (by rfl) (by simp [Value.oneCell']) ?_) | ((refine wpList_store_blk rfl 39 _ _ rfl rfl rfl zz3 (rs_info _) (by simp [rsC_size]) (rsC_one _) ?_); clear zz1 zz2 zz3; generalize (((((w'.alloc (.cells #[.slice none 0 0, .int .u64 0, .int .u64 0, .int .u64 0, .int .i64 0, .bool false, .bool false, .int .i64 0] 29)).alloc (.cells #[.int .u64 0, .slice none 0 0] 32)).alloc (.cells #[.int .u64 0, .bool false, .int .i64 0, .int .u64 0] 39)).setRow w'.heap.size (hrC ⟨A1, cc1, X1⟩)).setRow (w'.heap.size + 1) #[.int .u64 (S : Int), .slice B1 M1.length dd1]).setRow (w'.heap.size + 1 + 1) (rsC R1) = X at *))
        simp only [Act.put, List.setIfInBounds_toArray, List.set_cons_zero, List.set_cons_succ]
        generalize w'.heap.size = g4 at *
        generalize w.heap.size = g0 at *
        have x4 := h4.hr.pr
        have x5 := h4.hr.su
        have x6 := h4.hr.mx
        rw [I3.out] at x4
        rw [I4.out] at x5
        rw [I5.out] at x6
        have y4 := h1.hr.pr
        have y5 := h1.hr.su
        have y6 := h1.hr.mx
        go_wp2_with ((first | (refine wpList_load_part (by rfl) 27 _ rfl rfl h4 (hrC_sp A1 cc1 X1) Tryz.underlying27 rfl (sp_info _) ?_) | (refine wpList_load_part (by rfl) 27 _ rfl rfl h1 (hrC_sp A c h) Tryz.underlying27 rfl (sp_info _) ?_) | (refine wpList_cmp (op := .neq) (by rfl) 27 rfl rfl rfl (sp_guard) (q0) ?_) | (refine wpList_load_blk (by rfl) 29 _ rfl rfl h4 Tryz.underlying29 rfl (by kernel_rfl) ?_))); refine (crt _ _ _ r1 (hTE _ HE.out).s).mono ?_; rintro e w' ⟨rfl, hE⟩; (try replace hb := hb.ext hE); (try replace hm := hm.ext hE); (try replace h1 := h1.ext hE); (try replace h2 := h2.ext hE); (try replace h4 := h4.ext hE); (try replace h5 := h5.ext hE); (try replace h6 := h6.ext hE); (try replace h7 := h7.ext hE); (try replace h8 := h8.ext hE); (try replace h9 := h9.ext hE); (try replace hM := hM.ext hE); (try replace hN := hN.ext hE); (try replace hO := hO.ext hE); (try replace HE := Lib.hid (HE.out.trans hE)); (try replace r0 := r0.ext hE); (try replace r1 := r1.ext hE); (try replace r2 := r2.ext hE); (try replace r3 := r3.ext hE); (try replace r4 := r4.ext hE); (try replace r5 := r5.ext hE); (try replace r6 := r6.ext hE); clear hE
        clear x4 x5 x6 y4 y5 y6 q0 crt
        go_wp2_with ((refine wpList_load_blk (by rfl) 32 _ rfl rfl h5 Tryz.underlying32 rfl (by kernel_rfl) ?_)); refine (rright_x hM).mono ?_; rintro e w' ⟨rfl, hE⟩; (try replace hb := hb.ext hE); (try replace hm := hm.ext hE); (try replace h1 := h1.ext hE); (try replace h2 := h2.ext hE); (try replace h4 := h4.ext hE); (try replace h5 := h5.ext hE); (try replace h6 := h6.ext hE); (try replace h7 := h7.ext hE); (try replace h8 := h8.ext hE); (try replace h9 := h9.ext hE); (try replace hM := hM.ext hE); (try replace hN := hN.ext hE); (try replace hO := hO.ext hE); (try replace HE := Lib.hid (HE.out.trans hE)); (try replace r0 := r0.ext hE); (try replace r1 := r1.ext hE); (try replace r2 := r2.ext hE); (try replace r3 := r3.ext hE); (try replace r4 := r4.ext hE); (try replace r5 := r5.ext hE); (try replace r6 := r6.ext hE); clear hE
        have x8 := (h5.cell 0)
        have y8 := (h2.cell 0)
        simp only [List.getElem?_toArray, List.getElem?_cons_zero] at x8 y8
        have z1 := rng_cell h6.rs_f 0 (ftC_0 R1.f)
        rw [hb] at z1
        have z2 := rng_cell h6.rs_f 1 (ftC_1 R1.f)
        have z3 := rng_cell h6.rs_f 2 (ftC_2 R1.f)
        have z4 := h6.rs_v
        go_wp2
        go_ret
        exact ⟨rfl, HE.out⟩
      · have t1 : (R1.f.c == 1) = false := by rw [e]; rfl
        have t2 : (R1.f.c == 5) = true := by rw [e]; rfl
        have u1 : ((R1.v : Int) == 0) = true := by rw [g1]; rfl
        have u2 : ((R1.f.a : Int) == (a : Int)) = true := by rw [g2]; simp
        clear g1 g2
        go_enter Tryz.func4, Tryz.ntmps4
        go_wp2_with (fail); refine (caw _ (hTE _ HE.out)).mono ?_; rintro e w' ⟨rfl, hE⟩; (try replace hb := hb.ext hE); (try replace hm := hm.ext hE); (try replace h1 := h1.ext hE); (try replace h2 := h2.ext hE); (try replace h4 := h4.ext hE); (try replace h5 := h5.ext hE); (try replace h6 := h6.ext hE); (try replace h7 := h7.ext hE); (try replace h8 := h8.ext hE); (try replace h9 := h9.ext hE); (try replace hM := hM.ext hE); (try replace hN := hN.ext hE); (try replace hO := hO.ext hE); (try replace HE := Lib.hid (HE.out.trans hE)); (try replace r0 := r0.ext hE); (try replace r1 := r1.ext hE); (try replace r2 := r2.ext hE); (try replace r3 := r3.ext hE); (try replace r4 := r4.ext hE); (try replace r5 := r5.ext hE); (try replace r6 := r6.ext hE); clear hE
        go_wp2_with ((first | (refine wpList_load_blk (by rfl) 29 _ rfl rfl h1 Tryz.underlying29 rfl (by kernel_rfl) ?_) | (refine wpList_load_blk (by rfl) 32 _ rfl rfl h2 Tryz.underlying32 rfl (by kernel_rfl) ?_))); refine (cft _ (hrow _ HE.out) (hmm _ HE.out)).mono ?_; rintro e w' ⟨rfl, hE⟩; (try replace hb := hb.ext hE); (try replace hm := hm.ext hE); (try replace h1 := h1.ext hE); (try replace h2 := h2.ext hE); (try replace h4 := h4.ext hE); (try replace h5 := h5.ext hE); (try replace h6 := h6.ext hE); (try replace h7 := h7.ext hE); (try replace h8 := h8.ext hE); (try replace h9 := h9.ext hE); (try replace hM := hM.ext hE); (try replace hN := hN.ext hE); (try replace hO := hO.ext hE); (try replace HE := Lib.hid (HE.out.trans hE)); (try replace r0 := r0.ext hE); (try replace r1 := r1.ext hE); (try replace r2 := r2.ext hE); (try replace r3 := r3.ext hE); (try replace r4 := r4.ext hE); (try replace r5 := r5.ext hE); (try replace r6 := r6.ext hE); clear hE
        rw [hF]
        clear cft
        go_wp2_with fail
        refine (cpk _).mono ?_
        rintro r5 w' ⟨rfl, hE⟩
        (try replace hb := hb.ext hE); (try replace hm := hm.ext hE); (try replace h1 := h1.ext hE); (try replace h2 := h2.ext hE); (try replace h4 := h4.ext hE); (try replace h5 := h5.ext hE); (try replace h6 := h6.ext hE); (try replace h7 := h7.ext hE); (try replace h8 := h8.ext hE); (try replace h9 := h9.ext hE); (try replace hM := hM.ext hE); (try replace hN := hN.ext hE); (try replace hO := hO.ext hE); (try replace HE := Lib.hid (HE.out.trans hE)); (try replace r0 := r0.ext hE); (try replace r1 := r1.ext hE); (try replace r2 := r2.ext hE); (try replace r3 := r3.ext hE); (try replace r4 := r4.ext hE); (try replace r5 := r5.ext hE); (try replace r6 := r6.ext hE)
        clear hE cpk
        go_wp2_with ((first | (refine wpList_load_blk (by rfl) 29 _ rfl rfl h1 Tryz.underlying29 rfl (by kernel_rfl) ?_) | (refine wpList_load_blk (by rfl) 32 _ rfl rfl h2 Tryz.underlying32 rfl (by kernel_rfl) ?_))); refine (c1 _ (hrow _ HE.out) (hMm _ HE.out) (hTE _ HE.out)).mono ?_; rintro e w' ⟨A1, B1, cc1, dd1, rfl, r1, hM, hE⟩; (try replace hb := hb.ext hE); (try replace hm := hm.ext hE); (try replace h1 := h1.ext hE); (try replace h2 := h2.ext hE); (try replace h4 := h4.ext hE); (try replace h5 := h5.ext hE); (try replace h6 := h6.ext hE); (try replace h7 := h7.ext hE); (try replace h8 := h8.ext hE); (try replace h9 := h9.ext hE); (try replace hM := hM.ext hE); (try replace hN := hN.ext hE); (try replace hO := hO.ext hE); (try replace HE := Lib.hid (HE.out.trans hE)); (try replace r0 := r0.ext hE); (try replace r1 := r1.ext hE); (try replace r2 := r2.ext hE); (try replace r3 := r3.ext hE); (try replace r4 := r4.ext hE); (try replace r5 := r5.ext hE); (try replace r6 := r6.ext hE); clear hE
        clear c1
        obtain ⟨zz1, zz2, zz3, hE, h4, h5, h6⟩ := nh3 w' (hrC ⟨A1, cc1, X1⟩) #[.int .u64 (S : Int), .slice B1 M1.length dd1] (rsC R1); (try replace hb := hb.ext hE); (try replace hm := hm.ext hE); (try replace h1 := h1.ext hE); (try replace h2 := h2.ext hE); (try replace h4 := h4.ext hE); (try replace h5 := h5.ext hE); (try replace h6 := h6.ext hE); (try replace h7 := h7.ext hE); (try replace h8 := h8.ext hE); (try replace h9 := h9.ext hE); (try replace hM := hM.ext hE); (try replace hN := hN.ext hE); (try replace hO := hO.ext hE); (try replace HE := Lib.hid (HE.out.trans hE)); (try replace r0 := r0.ext hE); (try replace r1 := r1.ext hE); (try replace r2 := r2.ext hE); (try replace r3 := r3.ext hE); (try replace r4 := r4.ext hE); (try replace r5 := r5.ext hE); (try replace r6 := r6.ext hE); clear hE
        go_upto_region 6 with (first | (refine wpList_store_blk rfl 29 _ _ rfl rfl rfl zz1 (hr_info _) (by simp [hrC_size]) (hrC_one _) ?_) | (refine wpList_store_blk rfl 32 _ _ rfl rfl rfl zz2 (by kernel_rfl) (by rfl) (by simp [Value.oneCell']) ?_) | ((refine wpList_store_blk rfl 39 _ _ rfl rfl rfl zz3 (rs_info _) (by simp [rsC_size]) (rsC_one _) ?_); clear zz1 zz2 zz3; generalize (((((w'.alloc (.cells #[.slice none 0 0, .int .u64 0, .int .u64 0, .int .u64 0, .int .i64 0, .bool false, .bool false, .int .i64 0] 29)).alloc (.cells #[.int .u64 0, .slice none 0 0] 32)).alloc (.cells #[.int .u64 0, .bool false, .int .i64 0, .int .u64 0] 39)).setRow w'.heap.size (hrC ⟨A1, cc1, X1⟩)).setRow (w'.heap.size + 1) #[.int .u64 (S : Int), .slice B1 M1.length dd1]).setRow (w'.heap.size + 1 + 1) (rsC R1) = X at *))
        simp only [Act.put, List.setIfInBounds_toArray, List.set_cons_zero, List.set_cons_succ]
        generalize w'.heap.size = g4 at *
        generalize w.heap.size = g0 at *
        have x4 := h4.hr.pr
        have x5 := h4.hr.su
        have x6 := h4.hr.mx
        rw [I3.out] at x4
        rw [I4.out] at x5
        rw [I5.out] at x6
        have y4 := h1.hr.pr
        have y5 := h1.hr.su
        have y6 := h1.hr.mx
        go_wp2_with ((first | (refine wpList_load_part (by rfl) 27 _ rfl rfl h4 (hrC_sp A1 cc1 X1) Tryz.underlying27 rfl (sp_info _) ?_) | (refine wpList_load_part (by rfl) 27 _ rfl rfl h1 (hrC_sp A c h) Tryz.underlying27 rfl (sp_info _) ?_) | (refine wpList_cmp (op := .neq) (by rfl) 27 rfl rfl rfl (sp_guard) (q0) ?_) | (refine wpList_load_blk (by rfl) 29 _ rfl rfl h4 Tryz.underlying29 rfl (by kernel_rfl) ?_))); refine (crt _ _ _ r1 (hTE _ HE.out).s).mono ?_; rintro e w' ⟨rfl, hE⟩; (try replace hb := hb.ext hE); (try replace hm := hm.ext hE); (try replace h1 := h1.ext hE); (try replace h2 := h2.ext hE); (try replace h4 := h4.ext hE); (try replace h5 := h5.ext hE); (try replace h6 := h6.ext hE); (try replace h7 := h7.ext hE); (try replace h8 := h8.ext hE); (try replace h9 := h9.ext hE); (try replace hM := hM.ext hE); (try replace hN := hN.ext hE); (try replace hO := hO.ext hE); (try replace HE := Lib.hid (HE.out.trans hE)); (try replace r0 := r0.ext hE); (try replace r1 := r1.ext hE); (try replace r2 := r2.ext hE); (try replace r3 := r3.ext hE); (try replace r4 := r4.ext hE); (try replace r5 := r5.ext hE); (try replace r6 := r6.ext hE); clear hE
        clear x4 x5 x6 y4 y5 y6 q0 crt
        go_wp2_with ((refine wpList_load_blk (by rfl) 32 _ rfl rfl h5 Tryz.underlying32 rfl (by kernel_rfl) ?_)); refine (rright_x hM).mono ?_; rintro e w' ⟨rfl, hE⟩; (try replace hb := hb.ext hE); (try replace hm := hm.ext hE); (try replace h1 := h1.ext hE); (try replace h2 := h2.ext hE); (try replace h4 := h4.ext hE); (try replace h5 := h5.ext hE); (try replace h6 := h6.ext hE); (try replace h7 := h7.ext hE); (try replace h8 := h8.ext hE); (try replace h9 := h9.ext hE); (try replace hM := hM.ext hE); (try replace hN := hN.ext hE); (try replace hO := hO.ext hE); (try replace HE := Lib.hid (HE.out.trans hE)); (try replace r0 := r0.ext hE); (try replace r1 := r1.ext hE); (try replace r2 := r2.ext hE); (try replace r3 := r3.ext hE); (try replace r4 := r4.ext hE); (try replace r5 := r5.ext hE); (try replace r6 := r6.ext hE); clear hE
        have x8 := (h5.cell 0)
        have y8 := (h2.cell 0)
        simp only [List.getElem?_toArray, List.getElem?_cons_zero] at x8 y8
        have z1 := rng_cell h6.rs_f 0 (ftC_0 R1.f)
        rw [hb] at z1
        have z2 := rng_cell h6.rs_f 1 (ftC_1 R1.f)
        have z3 := rng_cell h6.rs_f 2 (ftC_2 R1.f)
        have z4 := h6.rs_v
        go_wp2
        go_ret
        exact ⟨rfl, HE.out⟩
      · have t1 : (R1.f.c == 1) = false := by rw [e]; rfl
        have t2 : (R1.f.c == 5) = false := by rw [e]; rfl
        have t3 : (R1.f.c == 7) = true := by rw [e]; rfl
        have u1 : ((R1.v : Int) == 0) = true := by rw [g1]; rfl
        have u2 : ((R1.f.a : Int) == (a : Int)) = true := by rw [g2]; simp
        clear g1 g2
        go_enter Tryz.func4, Tryz.ntmps4
        go_wp2_with (fail); refine (caw _ (hTE _ HE.out)).mono ?_; rintro e w' ⟨rfl, hE⟩; (try replace hb := hb.ext hE); (try replace hm := hm.ext hE); (try replace h1 := h1.ext hE); (try replace h2 := h2.ext hE); (try replace h4 := h4.ext hE); (try replace h5 := h5.ext hE); (try replace h6 := h6.ext hE); (try replace h7 := h7.ext hE); (try replace h8 := h8.ext hE); (try replace h9 := h9.ext hE); (try replace hM := hM.ext hE); (try replace hN := hN.ext hE); (try replace hO := hO.ext hE); (try replace HE := Lib.hid (HE.out.trans hE)); (try replace r0 := r0.ext hE); (try replace r1 := r1.ext hE); (try replace r2 := r2.ext hE); (try replace r3 := r3.ext hE); (try replace r4 := r4.ext hE); (try replace r5 := r5.ext hE); (try replace r6 := r6.ext hE); clear hE
        go_wp2_with ((first | (refine wpList_load_blk (by rfl) 29 _ rfl rfl h1 Tryz.underlying29 rfl (by kernel_rfl) ?_) | (refine wpList_load_blk (by rfl) 32 _ rfl rfl h2 Tryz.underlying32 rfl (by kernel_rfl) ?_))); refine (cft _ (hrow _ HE.out) (hmm _ HE.out)).mono ?_; rintro e w' ⟨rfl, hE⟩; (try replace hb := hb.ext hE); (try replace hm := hm.ext hE); (try replace h1 := h1.ext hE); (try replace h2 := h2.ext hE); (try replace h4 := h4.ext hE); (try replace h5 := h5.ext hE); (try replace h6 := h6.ext hE); (try replace h7 := h7.ext hE); (try replace h8 := h8.ext hE); (try replace h9 := h9.ext hE); (try replace hM := hM.ext hE); (try replace hN := hN.ext hE); (try replace hO := hO.ext hE); (try replace HE := Lib.hid (HE.out.trans hE)); (try replace r0 := r0.ext hE); (try replace r1 := r1.ext hE); (try replace r2 := r2.ext hE); (try replace r3 := r3.ext hE); (try replace r4 := r4.ext hE); (try replace r5 := r5.ext hE); (try replace r6 := r6.ext hE); clear hE
        rw [hF]
        clear cft
        go_wp2_with fail
        refine (cpk _).mono ?_
        rintro r5 w' ⟨rfl, hE⟩
        (try replace hb := hb.ext hE); (try replace hm := hm.ext hE); (try replace h1 := h1.ext hE); (try replace h2 := h2.ext hE); (try replace h4 := h4.ext hE); (try replace h5 := h5.ext hE); (try replace h6 := h6.ext hE); (try replace h7 := h7.ext hE); (try replace h8 := h8.ext hE); (try replace h9 := h9.ext hE); (try replace hM := hM.ext hE); (try replace hN := hN.ext hE); (try replace hO := hO.ext hE); (try replace HE := Lib.hid (HE.out.trans hE)); (try replace r0 := r0.ext hE); (try replace r1 := r1.ext hE); (try replace r2 := r2.ext hE); (try replace r3 := r3.ext hE); (try replace r4 := r4.ext hE); (try replace r5 := r5.ext hE); (try replace r6 := r6.ext hE)
        clear hE cpk
        go_wp2_with ((first | (refine wpList_load_blk (by rfl) 29 _ rfl rfl h1 Tryz.underlying29 rfl (by kernel_rfl) ?_) | (refine wpList_load_blk (by rfl) 32 _ rfl rfl h2 Tryz.underlying32 rfl (by kernel_rfl) ?_))); refine (c1 _ (hrow _ HE.out) (hMm _ HE.out) (hTE _ HE.out)).mono ?_; rintro e w' ⟨A1, B1, cc1, dd1, rfl, r1, hM, hE⟩; (try replace hb := hb.ext hE); (try replace hm := hm.ext hE); (try replace h1 := h1.ext hE); (try replace h2 := h2.ext hE); (try replace h4 := h4.ext hE); (try replace h5 := h5.ext hE); (try replace h6 := h6.ext hE); (try replace h7 := h7.ext hE); (try replace h8 := h8.ext hE); (try replace h9 := h9.ext hE); (try replace hM := hM.ext hE); (try replace hN := hN.ext hE); (try replace hO := hO.ext hE); (try replace HE := Lib.hid (HE.out.trans hE)); (try replace r0 := r0.ext hE); (try replace r1 := r1.ext hE); (try replace r2 := r2.ext hE); (try replace r3 := r3.ext hE); (try replace r4 := r4.ext hE); (try replace r5 := r5.ext hE); (try replace r6 := r6.ext hE); clear hE
        clear c1
        obtain ⟨zz1, zz2, zz3, hE, h4, h5, h6⟩ := nh3 w' (hrC ⟨A1, cc1, X1⟩) #[.int .u64 (S : Int), .slice B1 M1.length dd1] (rsC R1); (try replace hb := hb.ext hE); (try replace hm := hm.ext hE); (try replace h1 := h1.ext hE); (try replace h2 := h2.ext hE); (try replace h4 := h4.ext hE); (try replace h5 := h5.ext hE); (try replace h6 := h6.ext hE); (try replace h7 := h7.ext hE); (try replace h8 := h8.ext hE); (try replace h9 := h9.ext hE); (try replace hM := hM.ext hE); (try replace hN := hN.ext hE); (try replace hO := hO.ext hE); (try replace HE := Lib.hid (HE.out.trans hE)); (try replace r0 := r0.ext hE); (try replace r1 := r1.ext hE); (try replace r2 := r2.ext hE); (try replace r3 := r3.ext hE); (try replace r4 := r4.ext hE); (try replace r5 := r5.ext hE); (try replace r6 := r6.ext hE); clear hE
        go_upto_region 6 with (first | (refine wpList_store_blk rfl 29 _ _ rfl rfl rfl zz1 (hr_info _) (by simp [hrC_size]) (hrC_one _) ?_) | (refine wpList_store_blk rfl 32 _ _ rfl rfl rfl zz2 (by kernel_rfl) (by rfl) (by simp [Value.oneCell']) ?_) | ((refine wpList_store_blk rfl 39 _ _ rfl rfl rfl zz3 (rs_info _) (by simp [rsC_size]) (rsC_one _) ?_); clear zz1 zz2 zz3; generalize (((((w'.alloc (.cells #[.slice none 0 0, .int .u64 0, .int .u64 0, .int .u64 0, .int .i64 0, .bool false, .bool false, .int .i64 0] 29)).alloc (.cells #[.int .u64 0, .slice none 0 0] 32)).alloc (.cells #[.int .u64 0, .bool false, .int .i64 0, .int .u64 0] 39)).setRow w'.heap.size (hrC ⟨A1, cc1, X1⟩)).setRow (w'.heap.size + 1) #[.int .u64 (S : Int), .slice B1 M1.length dd1]).setRow (w'.heap.size + 1 + 1) (rsC R1) = X at *))
        simp only [Act.put, List.setIfInBounds_toArray, List.set_cons_zero, List.set_cons_succ]
        generalize w'.heap.size = g4 at *
        generalize w.heap.size = g0 at *
        have x4 := h4.hr.pr
        have x5 := h4.hr.su
        have x6 := h4.hr.mx
        rw [I3.out] at x4
        rw [I4.out] at x5
        rw [I5.out] at x6
        have y4 := h1.hr.pr
        have y5 := h1.hr.su
        have y6 := h1.hr.mx
        go_wp2_with ((first | (refine wpList_load_part (by rfl) 27 _ rfl rfl h4 (hrC_sp A1 cc1 X1) Tryz.underlying27 rfl (sp_info _) ?_) | (refine wpList_load_part (by rfl) 27 _ rfl rfl h1 (hrC_sp A c h) Tryz.underlying27 rfl (sp_info _) ?_) | (refine wpList_cmp (op := .neq) (by rfl) 27 rfl rfl rfl (sp_guard) (q0) ?_) | (refine wpList_load_blk (by rfl) 29 _ rfl rfl h4 Tryz.underlying29 rfl (by kernel_rfl) ?_))); refine (crt _ _ _ r1 (hTE _ HE.out).s).mono ?_; rintro e w' ⟨rfl, hE⟩; (try replace hb := hb.ext hE); (try replace hm := hm.ext hE); (try replace h1 := h1.ext hE); (try replace h2 := h2.ext hE); (try replace h4 := h4.ext hE); (try replace h5 := h5.ext hE); (try replace h6 := h6.ext hE); (try replace h7 := h7.ext hE); (try replace h8 := h8.ext hE); (try replace h9 := h9.ext hE); (try replace hM := hM.ext hE); (try replace hN := hN.ext hE); (try replace hO := hO.ext hE); (try replace HE := Lib.hid (HE.out.trans hE)); (try replace r0 := r0.ext hE); (try replace r1 := r1.ext hE); (try replace r2 := r2.ext hE); (try replace r3 := r3.ext hE); (try replace r4 := r4.ext hE); (try replace r5 := r5.ext hE); (try replace r6 := r6.ext hE); clear hE
        clear x4 x5 x6 y4 y5 y6 q0 crt
        go_wp2_with ((refine wpList_load_blk (by rfl) 32 _ rfl rfl h5 Tryz.underlying32 rfl (by kernel_rfl) ?_)); refine (rright_x hM).mono ?_; rintro e w' ⟨rfl, hE⟩; (try replace hb := hb.ext hE); (try replace hm := hm.ext hE); (try replace h1 := h1.ext hE); (try replace h2 := h2.ext hE); (try replace h4 := h4.ext hE); (try replace h5 := h5.ext hE); (try replace h6 := h6.ext hE); (try replace h7 := h7.ext hE); (try replace h8 := h8.ext hE); (try replace h9 := h9.ext hE); (try replace hM := hM.ext hE); (try replace hN := hN.ext hE); (try replace hO := hO.ext hE); (try replace HE := Lib.hid (HE.out.trans hE)); (try replace r0 := r0.ext hE); (try replace r1 := r1.ext hE); (try replace r2 := r2.ext hE); (try replace r3 := r3.ext hE); (try replace r4 := r4.ext hE); (try replace r5 := r5.ext hE); (try replace r6 := r6.ext hE); clear hE
        have x8 := (h5.cell 0)
        have y8 := (h2.cell 0)
        simp only [List.getElem?_toArray, List.getElem?_cons_zero] at x8 y8
        have z1 := rng_cell h6.rs_f 0 (ftC_0 R1.f)
        rw [hb] at z1
        have z2 := rng_cell h6.rs_f 1 (ftC_1 R1.f)
        have z3 := rng_cell h6.rs_f 2 (ftC_2 R1.f)
        have z4 := h6.rs_v
        go_wp2
        go_ret
        exact ⟨rfl, HE.out⟩
    case neg =>
      obtain ⟨f1, f2⟩ : X1 = h ∧ M1 = M := by
        rcases g3 with e | e
        · exact absurd e hodd
        · exact e
      have t1 : (R1.f.c == 1) = false := by rw [beq_eq_false_iff_ne]; exact fun e => hodd (.inl e)
      have t2 : (R1.f.c == 5) = false := by rw [beq_eq_false_iff_ne]; exact fun e => hodd (.inr (.inl e))
      have t3 : (R1.f.c == 7) = false := by rw [beq_eq_false_iff_ne]; exact fun e => hodd (.inr (.inr e))
      rw [decide_eq_true f1] at csm
      have F2 := Lib.hid f2
      clear hodd g3 f1 f2
      have u1 : ((R1.v : Int) == 0) = true := by rw [g1]; rfl
      have u2 : ((R1.f.a : Int) == (a : Int)) = true := by rw [g2]; simp
      clear g1 g2
      go_enter Tryz.func4, Tryz.ntmps4
      go_wp2_with (fail); refine (caw _ (hTE _ HE.out)).mono ?_; rintro e w' ⟨rfl, hE⟩; (try replace hb := hb.ext hE); (try replace hm := hm.ext hE); (try replace h1 := h1.ext hE); (try replace h2 := h2.ext hE); (try replace h4 := h4.ext hE); (try replace h5 := h5.ext hE); (try replace h6 := h6.ext hE); (try replace h7 := h7.ext hE); (try replace h8 := h8.ext hE); (try replace h9 := h9.ext hE); (try replace hM := hM.ext hE); (try replace hN := hN.ext hE); (try replace hO := hO.ext hE); (try replace HE := Lib.hid (HE.out.trans hE)); (try replace r0 := r0.ext hE); (try replace r1 := r1.ext hE); (try replace r2 := r2.ext hE); (try replace r3 := r3.ext hE); (try replace r4 := r4.ext hE); (try replace r5 := r5.ext hE); (try replace r6 := r6.ext hE); clear hE
      go_wp2_with ((first | (refine wpList_load_blk (by rfl) 29 _ rfl rfl h1 Tryz.underlying29 rfl (by kernel_rfl) ?_) | (refine wpList_load_blk (by rfl) 32 _ rfl rfl h2 Tryz.underlying32 rfl (by kernel_rfl) ?_))); refine (cft _ (hrow _ HE.out) (hmm _ HE.out)).mono ?_; rintro e w' ⟨rfl, hE⟩; (try replace hb := hb.ext hE); (try replace hm := hm.ext hE); (try replace h1 := h1.ext hE); (try replace h2 := h2.ext hE); (try replace h4 := h4.ext hE); (try replace h5 := h5.ext hE); (try replace h6 := h6.ext hE); (try replace h7 := h7.ext hE); (try replace h8 := h8.ext hE); (try replace h9 := h9.ext hE); (try replace hM := hM.ext hE); (try replace hN := hN.ext hE); (try replace hO := hO.ext hE); (try replace HE := Lib.hid (HE.out.trans hE)); (try replace r0 := r0.ext hE); (try replace r1 := r1.ext hE); (try replace r2 := r2.ext hE); (try replace r3 := r3.ext hE); (try replace r4 := r4.ext hE); (try replace r5 := r5.ext hE); (try replace r6 := r6.ext hE); clear hE
      rw [hF]
      clear cft
      go_wp2_with fail
      refine (cpk _).mono ?_
      rintro r5 w' ⟨rfl, hE⟩
      (try replace hb := hb.ext hE); (try replace hm := hm.ext hE); (try replace h1 := h1.ext hE); (try replace h2 := h2.ext hE); (try replace h4 := h4.ext hE); (try replace h5 := h5.ext hE); (try replace h6 := h6.ext hE); (try replace h7 := h7.ext hE); (try replace h8 := h8.ext hE); (try replace h9 := h9.ext hE); (try replace hM := hM.ext hE); (try replace hN := hN.ext hE); (try replace hO := hO.ext hE); (try replace HE := Lib.hid (HE.out.trans hE)); (try replace r0 := r0.ext hE); (try replace r1 := r1.ext hE); (try replace r2 := r2.ext hE); (try replace r3 := r3.ext hE); (try replace r4 := r4.ext hE); (try replace r5 := r5.ext hE); (try replace r6 := r6.ext hE)
      clear hE cpk
      go_wp2_with ((first | (refine wpList_load_blk (by rfl) 29 _ rfl rfl h1 Tryz.underlying29 rfl (by kernel_rfl) ?_) | (refine wpList_load_blk (by rfl) 32 _ rfl rfl h2 Tryz.underlying32 rfl (by kernel_rfl) ?_))); refine (c1 _ (hrow _ HE.out) (hMm _ HE.out) (hTE _ HE.out)).mono ?_; rintro e w' ⟨A1, B1, cc1, dd1, rfl, r1, hM, hE⟩; (try replace hb := hb.ext hE); (try replace hm := hm.ext hE); (try replace h1 := h1.ext hE); (try replace h2 := h2.ext hE); (try replace h4 := h4.ext hE); (try replace h5 := h5.ext hE); (try replace h6 := h6.ext hE); (try replace h7 := h7.ext hE); (try replace h8 := h8.ext hE); (try replace h9 := h9.ext hE); (try replace hM := hM.ext hE); (try replace hN := hN.ext hE); (try replace hO := hO.ext hE); (try replace HE := Lib.hid (HE.out.trans hE)); (try replace r0 := r0.ext hE); (try replace r1 := r1.ext hE); (try replace r2 := r2.ext hE); (try replace r3 := r3.ext hE); (try replace r4 := r4.ext hE); (try replace r5 := r5.ext hE); (try replace r6 := r6.ext hE); clear hE
      clear c1
      obtain ⟨zz1, zz2, zz3, hE, h4, h5, h6⟩ := nh3 w' (hrC ⟨A1, cc1, X1⟩) #[.int .u64 (S : Int), .slice B1 M1.length dd1] (rsC R1); (try replace hb := hb.ext hE); (try replace hm := hm.ext hE); (try replace h1 := h1.ext hE); (try replace h2 := h2.ext hE); (try replace h4 := h4.ext hE); (try replace h5 := h5.ext hE); (try replace h6 := h6.ext hE); (try replace h7 := h7.ext hE); (try replace h8 := h8.ext hE); (try replace h9 := h9.ext hE); (try replace hM := hM.ext hE); (try replace hN := hN.ext hE); (try replace hO := hO.ext hE); (try replace HE := Lib.hid (HE.out.trans hE)); (try replace r0 := r0.ext hE); (try replace r1 := r1.ext hE); (try replace r2 := r2.ext hE); (try replace r3 := r3.ext hE); (try replace r4 := r4.ext hE); (try replace r5 := r5.ext hE); (try replace r6 := r6.ext hE); clear hE
      go_upto_region 6 with (first | (refine wpList_store_blk rfl 29 _ _ rfl rfl rfl zz1 (hr_info _) (by simp [hrC_size]) (hrC_one _) ?_) | (refine wpList_store_blk rfl 32 _ _ rfl rfl rfl zz2 (by kernel_rfl) (by rfl) (by simp [Value.oneCell']) ?_) | ((refine wpList_store_blk rfl 39 _ _ rfl rfl rfl zz3 (rs_info _) (by simp [rsC_size]) (rsC_one _) ?_); clear zz1 zz2 zz3; generalize (((((w'.alloc (.cells #[.slice none 0 0, .int .u64 0, .int .u64 0, .int .u64 0, .int .i64 0, .bool false, .bool false, .int .i64 0] 29)).alloc (.cells #[.int .u64 0, .slice none 0 0] 32)).alloc (.cells #[.int .u64 0, .bool false, .int .i64 0, .int .u64 0] 39)).setRow w'.heap.size (hrC ⟨A1, cc1, X1⟩)).setRow (w'.heap.size + 1) #[.int .u64 (S : Int), .slice B1 M1.length dd1]).setRow (w'.heap.size + 1 + 1) (rsC R1) = X at *))
      simp only [Act.put, List.setIfInBounds_toArray, List.set_cons_zero, List.set_cons_succ]
      generalize w'.heap.size = g4 at *
      generalize w.heap.size = g0 at *
      have x4 := h4.hr.pr
      have x5 := h4.hr.su
      have x6 := h4.hr.mx
      rw [I3.out] at x4
      rw [I4.out] at x5
      rw [I5.out] at x6
      have y4 := h1.hr.pr
      have y5 := h1.hr.su
      have y6 := h1.hr.mx
      go_wp2_with ((first | (refine wpList_load_part (by rfl) 27 _ rfl rfl h4 (hrC_sp A1 cc1 X1) Tryz.underlying27 rfl (sp_info _) ?_) | (refine wpList_load_part (by rfl) 27 _ rfl rfl h1 (hrC_sp A c h) Tryz.underlying27 rfl (sp_info _) ?_) | (refine wpList_cmp (op := .neq) (by rfl) 27 rfl rfl rfl (sp_guard) (q0) ?_) | (refine wpList_load_blk (by rfl) 29 _ rfl rfl h4 Tryz.underlying29 rfl (by kernel_rfl) ?_))); refine (crt _ _ _ r1 (hTE _ HE.out).s).mono ?_; rintro e w' ⟨rfl, hE⟩; (try replace hb := hb.ext hE); (try replace hm := hm.ext hE); (try replace h1 := h1.ext hE); (try replace h2 := h2.ext hE); (try replace h4 := h4.ext hE); (try replace h5 := h5.ext hE); (try replace h6 := h6.ext hE); (try replace h7 := h7.ext hE); (try replace h8 := h8.ext hE); (try replace h9 := h9.ext hE); (try replace hM := hM.ext hE); (try replace hN := hN.ext hE); (try replace hO := hO.ext hE); (try replace HE := Lib.hid (HE.out.trans hE)); (try replace r0 := r0.ext hE); (try replace r1 := r1.ext hE); (try replace r2 := r2.ext hE); (try replace r3 := r3.ext hE); (try replace r4 := r4.ext hE); (try replace r5 := r5.ext hE); (try replace r6 := r6.ext hE); clear hE
      clear x4 x5 x6 y4 y5 y6 q0 crt
      go_wp2_with ((refine wpList_load_blk (by rfl) 32 _ rfl rfl h5 Tryz.underlying32 rfl (by kernel_rfl) ?_)); refine (rright_x hM).mono ?_; rintro e w' ⟨rfl, hE⟩; (try replace hb := hb.ext hE); (try replace hm := hm.ext hE); (try replace h1 := h1.ext hE); (try replace h2 := h2.ext hE); (try replace h4 := h4.ext hE); (try replace h5 := h5.ext hE); (try replace h6 := h6.ext hE); (try replace h7 := h7.ext hE); (try replace h8 := h8.ext hE); (try replace h9 := h9.ext hE); (try replace hM := hM.ext hE); (try replace hN := hN.ext hE); (try replace hO := hO.ext hE); (try replace HE := Lib.hid (HE.out.trans hE)); (try replace r0 := r0.ext hE); (try replace r1 := r1.ext hE); (try replace r2 := r2.ext hE); (try replace r3 := r3.ext hE); (try replace r4 := r4.ext hE); (try replace r5 := r5.ext hE); (try replace r6 := r6.ext hE); clear hE
      have x8 := (h5.cell 0)
      have y8 := (h2.cell 0)
      simp only [List.getElem?_toArray, List.getElem?_cons_zero] at x8 y8
      have z1 := rng_cell h6.rs_f 0 (ftC_0 R1.f)
      rw [hb] at z1
      have z2 := rng_cell h6.rs_f 1 (ftC_1 R1.f)
      have z3 := rng_cell h6.rs_f 2 (ftC_2 R1.f)
      have z4 := h6.rs_v
      go_wp2_with (first | (refine wpList_load_blk (by rfl) 29 _ rfl rfl h4 Tryz.underlying29 rfl (by kernel_rfl) ?_) | (refine wpList_load_blk (by rfl) 29 _ rfl rfl h1 Tryz.underlying29 rfl (by kernel_rfl) ?_))
      refine (csm _ _ _ r1 (hrow _ HE.out)).mono ?_
      rintro r5 w' ⟨rfl, hE⟩
      clear x8 y8 z1 z2 z3 z4
      (try replace hb := hb.ext hE); (try replace hm := hm.ext hE); (try replace h1 := h1.ext hE); (try replace h2 := h2.ext hE); (try replace h4 := h4.ext hE); (try replace h5 := h5.ext hE); (try replace h6 := h6.ext hE); (try replace h7 := h7.ext hE); (try replace h8 := h8.ext hE); (try replace h9 := h9.ext hE); (try replace hM := hM.ext hE); (try replace hN := hN.ext hE); (try replace hO := hO.ext hE); (try replace HE := Lib.hid (HE.out.trans hE)); (try replace r0 := r0.ext hE); (try replace r1 := r1.ext hE); (try replace r2 := r2.ext hE); (try replace r3 := r3.ext hE); (try replace r4 := r4.ext hE); (try replace r5 := r5.ext hE); (try replace r6 := r6.ext hE)
      clear hE csm
      go_wp2_with ((first | (refine wpList_load_blk (by rfl) 32 _ rfl rfl h5 Tryz.underlying32 rfl (by kernel_rfl) ?_) | (refine wpList_load_blk (by rfl) 32 _ rfl rfl h2 Tryz.underlying32 rfl (by kernel_rfl) ?_))); refine (same_x hM (hMm _ HE.out) F2.out).mono ?_; rintro e w' ⟨rfl, hE⟩; (try replace hb := hb.ext hE); (try replace hm := hm.ext hE); (try replace h1 := h1.ext hE); (try replace h2 := h2.ext hE); (try replace h4 := h4.ext hE); (try replace h5 := h5.ext hE); (try replace h6 := h6.ext hE); (try replace h7 := h7.ext hE); (try replace h8 := h8.ext hE); (try replace h9 := h9.ext hE); (try replace hM := hM.ext hE); (try replace hN := hN.ext hE); (try replace hO := hO.ext hE); (try replace HE := Lib.hid (HE.out.trans hE)); (try replace r0 := r0.ext hE); (try replace r1 := r1.ext hE); (try replace r2 := r2.ext hE); (try replace r3 := r3.ext hE); (try replace r4 := r4.ext hE); (try replace r5 := r5.ext hE); (try replace r6 := r6.ext hE); clear hE
      go_wp2
      go_ret
      exact ⟨rfl, HE.out⟩
end Go.Proofs.YtledkljbegpdpaaGreatDoor
