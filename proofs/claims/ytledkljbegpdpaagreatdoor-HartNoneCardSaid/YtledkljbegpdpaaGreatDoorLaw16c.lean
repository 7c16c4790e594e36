/- HartNone. -/
import Derived.Test.YtledkljbegpdpaaGreatDoorLaw16b
namespace Go.Proofs.YtledkljbegpdpaaGreatDoor
open Go.ChangeShapes Go.WideShapes Go.ChangeAt Go.RowKit
set_option linter.unusedVariables false
set_option linter.unusedSimpArgs false
set_option maxRecDepth 100000

attribute [local irreducible] World.setRow World.alloc Blk
set_option maxHeartbeats 8000000 in
theorem HartNone_w (caw : Awk) (A : Option Addr) (h : Hr) (c S : Nat) (B : Option Addr) (M : List (Nat × Nat)) (d n a z o : Nat) (hok : h.ok) (hS : S < 18446744073709551616) (hC : IsCells M) (n1 : n < 256) (a1 : a < 18446744073709551616) (z1 : z < 256) (o1 : o < 18446744073709551616) (w : World) (hr : RowV KS w A h.L c) (hm : RowL w B M d) (hT : Layh w) :
    Calls Tryz.prog 7 #[.agg (hrC ⟨A, c, h⟩), .agg #[.int .u64 (S : Int), .slice B M.length d], .int .u8 (n : Int), .int .u64 (a : Int), .int .u8 (z : Int), .int .u64 (o : Int)] w fun r w' => r = .returned (.bool true) ∧ Ext w w' := by
  have h1 : Blk ((w.alloc (.cells (hrC ⟨A, c, h⟩) 29)).alloc (.cells #[.int .u64 (S : Int), .slice B M.length d] 32)) w.heap.size 29 (hrC ⟨A, c, h⟩) := (Blk.new w _ _).alloc _
  have h2 : Blk ((w.alloc (.cells (hrC ⟨A, c, h⟩) 29)).alloc (.cells #[.int .u64 (S : Int), .slice B M.length d] 32)) (w.heap.size + 1) 32 #[.int .u64 (S : Int), .slice B M.length d] := blk_at (by simp)
  have HE := Lib.hid (((Ext.refl w).alloc (.cells (hrC ⟨A, c, h⟩) 29)).alloc (.cells #[.int .u64 (S : Int), .slice B M.length d] 32))
  have hrow : ∀ W : World, Ext w W → RowV KS W A h.L c := fun W e => hr.ext e
  have hmm : ∀ W : World, Ext w W → RowL W B M d := fun W e => hm.ext e
  have hTE : ∀ W : World, Ext w W → Layh W := fun W e => hT.ext e
  have cft := fun W p q => fits16_c A h c S B M d hS hC W p q
  cases hF : fitH h S M
  · skip
    go_enter Tryz.func7, Tryz.ntmps7
    go_wp2_with (fail); refine (caw _ (hTE _ HE.out)).mono ?_; rintro e w' ⟨rfl, hE⟩; (try replace hm := hm.ext hE); (try replace h1 := h1.ext hE); (try replace h2 := h2.ext hE); (try replace h3 := h3.ext hE); (try replace h4 := h4.ext hE); (try replace h5 := h5.ext hE); (try replace h6 := h6.ext hE); (try replace h7 := h7.ext hE); (try replace h8 := h8.ext hE); (try replace h9 := h9.ext hE); (try replace k1 := k1.ext hE); (try replace k2 := k2.ext hE); (try replace k3 := k3.ext hE); (try replace hM := hM.ext hE); (try replace hN := hN.ext hE); (try replace hO := hO.ext hE); (try replace HE := Lib.hid (HE.out.trans hE)); (try replace r0 := r0.ext hE); (try replace r1 := r1.ext hE); (try replace r2 := r2.ext hE); (try replace r3 := r3.ext hE); (try replace r4 := r4.ext hE); (try replace r5 := r5.ext hE); (try replace r6 := r6.ext hE); clear hE
    go_wp2_with ((first | (refine wpList_load_blk (by rfl) 29 _ rfl rfl h1 Tryz.underlying29 rfl (by kernel_rfl) ?_) | (refine wpList_load_blk (by rfl) 32 _ rfl rfl h2 Tryz.underlying32 rfl (by kernel_rfl) ?_))); refine (cft _ (hrow _ HE.out) (hmm _ HE.out)).mono ?_; rintro e w' ⟨rfl, hE⟩; (try replace hm := hm.ext hE); (try replace h1 := h1.ext hE); (try replace h2 := h2.ext hE); (try replace h3 := h3.ext hE); (try replace h4 := h4.ext hE); (try replace h5 := h5.ext hE); (try replace h6 := h6.ext hE); (try replace h7 := h7.ext hE); (try replace h8 := h8.ext hE); (try replace h9 := h9.ext hE); (try replace k1 := k1.ext hE); (try replace k2 := k2.ext hE); (try replace k3 := k3.ext hE); (try replace hM := hM.ext hE); (try replace hN := hN.ext hE); (try replace hO := hO.ext hE); (try replace HE := Lib.hid (HE.out.trans hE)); (try replace r0 := r0.ext hE); (try replace r1 := r1.ext hE); (try replace r2 := r2.ext hE); (try replace r3 := r3.ext hE); (try replace r4 := r4.ext hE); (try replace r5 := r5.ext hE); (try replace r6 := r6.ext hE); clear hE
    rw [hF]
    clear cft
    go_wp2_with (fail); refine (caw _ (hTE _ HE.out)).mono ?_; rintro e w' ⟨rfl, hE⟩; (try replace hm := hm.ext hE); (try replace h1 := h1.ext hE); (try replace h2 := h2.ext hE); (try replace h3 := h3.ext hE); (try replace h4 := h4.ext hE); (try replace h5 := h5.ext hE); (try replace h6 := h6.ext hE); (try replace h7 := h7.ext hE); (try replace h8 := h8.ext hE); (try replace h9 := h9.ext hE); (try replace k1 := k1.ext hE); (try replace k2 := k2.ext hE); (try replace k3 := k3.ext hE); (try replace hM := hM.ext hE); (try replace hN := hN.ext hE); (try replace hO := hO.ext hE); (try replace HE := Lib.hid (HE.out.trans hE)); (try replace r0 := r0.ext hE); (try replace r1 := r1.ext hE); (try replace r2 := r2.ext hE); (try replace r3 := r3.ext hE); (try replace r4 := r4.ext hE); (try replace r5 := r5.ext hE); (try replace r6 := r6.ext hE); clear hE
    go_wp2
    go_ret
    exact ⟨rfl, HE.out⟩
  obtain ⟨-, fr, f3, -⟩ := fit_h hF
  have hMm : ∀ W : World, Ext w W → Mem W S B M d := fun W e => fit_m hF hC (hmm W e)
  have hM0 := hMm w (Ext.refl _)
  have hRL := hM0.rl
  have h8 := hM0.ok.mod8
  clear hM0
  obtain ⟨s, hs, -, cpk⟩ := pick_s (z : Int) (by omega) (by omega)
  have hnk : ((n % 2 : Nat) : Int) = (n : Int) % 2 := by omega
  have hb1 := bare_right fr
  have hb2 := bare_ok hok
  have cbr := fun W => rbare16_c A h c W
  have c1 := fun W m t => acc16_c none (bareH h) 0 S B M d (n % 2) a s 0 hb1 hb2 (by omega) a1 hs (by decide) W (bare_row W h) m (by omega) t
  have c2 := fun W m t => acc16_c none (bareH h) 0 S B M d 1 o 1 0 hb1 hb2 (by decide) o1 (.inl rfl) (by decide) W (bare_row W h) m (by omega) t
  have hl2 := acc_len (h := bareH h) (k := 1) (a := o) hRL h8 1 0
  have c3 := fun B2 d2 W m t => acc16_c none (bareH h) 0 S B2 (accM S M (bareH h) 1 o 1 0) d2 (n % 2) a s 0 hb1 hb2 (by omega) a1 hs (by decide) W (bare_row W h) m (by omega) t
  have hR := acc_right (k := n % 2) hb1 hRL h8 a1 s 0
  have hO := acc_ok (k := n % 2) hb1 hb2 hRL h8 a1 s
  have hl1 := acc_len (h := bareH h) (k := n % 2) (a := a) hRL h8 s 0
  have c4 := fun A4 c4 B4 d4 W r m t => acc16_c A4 (accH S M (bareH h) (n % 2) a s) c4 S B4 (accM S M (bareH h) (n % 2) a s 0) d4 (n % 2) a s 0 hR.1 hO (by omega) a1 hs (by decide) W r m (by omega) t
  have hL0 : (bareH h).L.length = 0 := by rw [bare_L]; rfl
  have q := none_hart (S := S) (M := M) (h := bareH h) hL0 (n % 2) a s
  have p1 := none_f hRL (none_mem hRL h8 (bareH h) (k := n % 2) (by omega) a s 0) (h := bareH h) (g := accH S M (bareH h) (n % 2) a s) hL0 q.1 q.2.1 q.2.2.1 q.2.2.2.1 q.2.2.2.2.1 (n % 2) a s (S := S)
  have p2 := none_f hRL (none_mem hRL h8 (bareH h) (k := 1) (by decide) o 1 0) (h := bareH h) (g := bareH h) hL0 hL0 rfl rfl rfl rfl (n % 2) a s (S := S)
  have q1 := q.1
  have q2 := q.2.2.2.2.2
  have e3 := acc_vi S M (bareH h) (n % 2) a s
  unfold AccT at c1 c2 c3 c4
  simp only [hnk] at c1 c3 c4
  clear q hR hO hl1 hl2 hL0 hb1 hb2 fr f3 hRL h8 e3 hs
  generalize accR S (accM S M (bareH h) 1 o 1 0) (bareH h) (n % 2) a s = R3 at *
  generalize accR S (accM S M (bareH h) (n % 2) a s 0) (accH S M (bareH h) (n % 2) a s) (n % 2) a s = R4 at *
  generalize accH S (accM S M (bareH h) 1 o 1 0) (bareH h) (n % 2) a s = H3 at *
  generalize accH S (accM S M (bareH h) (n % 2) a s 0) (accH S M (bareH h) (n % 2) a s) (n % 2) a s = H4 at *
  generalize accM S (accM S M (bareH h) 1 o 1 0) (bareH h) (n % 2) a s 0 = M3 at *
  generalize accM S (accM S M (bareH h) (n % 2) a s 0) (accH S M (bareH h) (n % 2) a s) (n % 2) a s 0 = M4 at *
  generalize accH S M (bareH h) (n % 2) a s = H1 at *
  generalize accH S M (bareH h) 1 o 1 = H2 at *
  generalize accM S M (bareH h) (n % 2) a s 0 = M1 at *
  generalize accM S M (bareH h) 1 o 1 0 = M2 at *
  generalize accR S M (bareH h) (n % 2) a s = R1 at *
  generalize accR S M (bareH h) 1 o 1 = R2 at *
  generalize bareH h = b at *
  have P1 := Lib.hid p1
  have P2 := Lib.hid p2
  clear p1 p2
  go_enter Tryz.func7, Tryz.ntmps7
  go_wp2_with (fail); refine (caw _ (hTE _ HE.out)).mono ?_; rintro e w' ⟨rfl, hE⟩; (try replace hm := hm.ext hE); (try replace h1 := h1.ext hE); (try replace h2 := h2.ext hE); (try replace h3 := h3.ext hE); (try replace h4 := h4.ext hE); (try replace h5 := h5.ext hE); (try replace h6 := h6.ext hE); (try replace h7 := h7.ext hE); (try replace h8 := h8.ext hE); (try replace h9 := h9.ext hE); (try replace k1 := k1.ext hE); (try replace k2 := k2.ext hE); (try replace k3 := k3.ext hE); (try replace hM := hM.ext hE); (try replace hN := hN.ext hE); (try replace hO := hO.ext hE); (try replace HE := Lib.hid (HE.out.trans hE)); (try replace r0 := r0.ext hE); (try replace r1 := r1.ext hE); (try replace r2 := r2.ext hE); (try replace r3 := r3.ext hE); (try replace r4 := r4.ext hE); (try replace r5 := r5.ext hE); (try replace r6 := r6.ext hE); clear hE
  go_wp2_with ((first | (refine wpList_load_blk (by rfl) 29 _ rfl rfl h1 Tryz.underlying29 rfl (by kernel_rfl) ?_) | (refine wpList_load_blk (by rfl) 32 _ rfl rfl h2 Tryz.underlying32 rfl (by kernel_rfl) ?_))); refine (cft _ (hrow _ HE.out) (hmm _ HE.out)).mono ?_; rintro e w' ⟨rfl, hE⟩; (try replace hm := hm.ext hE); (try replace h1 := h1.ext hE); (try replace h2 := h2.ext hE); (try replace h3 := h3.ext hE); (try replace h4 := h4.ext hE); (try replace h5 := h5.ext hE); (try replace h6 := h6.ext hE); (try replace h7 := h7.ext hE); (try replace h8 := h8.ext hE); (try replace h9 := h9.ext hE); (try replace k1 := k1.ext hE); (try replace k2 := k2.ext hE); (try replace k3 := k3.ext hE); (try replace hM := hM.ext hE); (try replace hN := hN.ext hE); (try replace hO := hO.ext hE); (try replace HE := Lib.hid (HE.out.trans hE)); (try replace r0 := r0.ext hE); (try replace r1 := r1.ext hE); (try replace r2 := r2.ext hE); (try replace r3 := r3.ext hE); (try replace r4 := r4.ext hE); (try replace r5 := r5.ext hE); (try replace r6 := r6.ext hE); clear hE
  rw [hF]
  clear cft
  go_wp2_with ((refine wpList_load_blk (by rfl) 29 _ rfl rfl h1 Tryz.underlying29 rfl (by kernel_rfl) ?_)); refine (cbr _).mono ?_; rintro e w' ⟨rfl, hE⟩; (try replace hm := hm.ext hE); (try replace h1 := h1.ext hE); (try replace h2 := h2.ext hE); (try replace h3 := h3.ext hE); (try replace h4 := h4.ext hE); (try replace h5 := h5.ext hE); (try replace h6 := h6.ext hE); (try replace h7 := h7.ext hE); (try replace h8 := h8.ext hE); (try replace h9 := h9.ext hE); (try replace k1 := k1.ext hE); (try replace k2 := k2.ext hE); (try replace k3 := k3.ext hE); (try replace hM := hM.ext hE); (try replace hN := hN.ext hE); (try replace hO := hO.ext hE); (try replace HE := Lib.hid (HE.out.trans hE)); (try replace r0 := r0.ext hE); (try replace r1 := r1.ext hE); (try replace r2 := r2.ext hE); (try replace r3 := r3.ext hE); (try replace r4 := r4.ext hE); (try replace r5 := r5.ext hE); (try replace r6 := r6.ext hE); clear hE
  clear cbr
  have zz1 : Blk (w'.alloc (.cells #[.slice none 0 0, .int .u64 0, .int .u64 0, .int .u64 0, .int .i64 0, .bool false, .bool false, .int .i64 0] 29)) w'.heap.size 29 #[.slice none 0 0, .int .u64 0, .int .u64 0, .int .u64 0, .int .i64 0, .bool false, .bool false, .int .i64 0] := Blk.new _ _ _; have hE := ((Ext.refl w').alloc (.cells #[.slice none 0 0, .int .u64 0, .int .u64 0, .int .u64 0, .int .i64 0, .bool false, .bool false, .int .i64 0] 29)).row (Nat.le_refl w'.heap.size) (hrC ⟨none, 0, b⟩); (try replace hm := hm.ext hE); (try replace h1 := h1.ext hE); (try replace h2 := h2.ext hE); (try replace h3 := h3.ext hE); (try replace h4 := h4.ext hE); (try replace h5 := h5.ext hE); (try replace h6 := h6.ext hE); (try replace h7 := h7.ext hE); (try replace h8 := h8.ext hE); (try replace h9 := h9.ext hE); (try replace k1 := k1.ext hE); (try replace k2 := k2.ext hE); (try replace k3 := k3.ext hE); (try replace hM := hM.ext hE); (try replace hN := hN.ext hE); (try replace hO := hO.ext hE); (try replace HE := Lib.hid (HE.out.trans hE)); clear hE; have h3 := zz1.row (hrC ⟨none, 0, b⟩)
  go_wp2_with (first | ((refine wpList_store_blk rfl 29 _ _ rfl rfl rfl zz1 (hr_info _) (by simp [hrC_size]) (hrC_one _) ?_); clear zz1; generalize (w'.alloc (.cells #[.slice none 0 0, .int .u64 0, .int .u64 0, .int .u64 0, .int .i64 0, .bool false, .bool false, .int .i64 0] 29)).setRow w'.heap.size (hrC ⟨none, 0, b⟩) = X at *) | (refine wpList_load_blk (by rfl) 32 _ rfl rfl (by first | exact h1 | exact h2 | exact h3 | exact h4 | exact h5 | exact h6 | exact h7 | exact h8 | exact h9 | exact k1 | exact k2 | exact k3) Tryz.underlying32 rfl (by kernel_rfl) ?_) | (refine wpList_load_blk (by rfl) 68 _ rfl rfl (by first | exact h1 | exact h2 | exact h3 | exact h4 | exact h5 | exact h6 | exact h7 | exact h8 | exact h9 | exact k1 | exact k2 | exact k3) Tryz.underlying68 rfl (by kernel_rfl) ?_) | (refine wpList_load_blk (by rfl) 37 _ rfl rfl (by first | exact h1 | exact h2 | exact h3 | exact h4 | exact h5 | exact h6 | exact h7 | exact h8 | exact h9 | exact k1 | exact k2 | exact k3) Tryz.underlying37 rfl (by kernel_rfl) ?_) | (refine wpList_load_blk (by rfl) 63 _ rfl rfl (by first | exact h1 | exact h2 | exact h3 | exact h4 | exact h5 | exact h6 | exact h7 | exact h8 | exact h9 | exact k1 | exact k2 | exact k3) Tryz.underlying63 rfl (by kernel_rfl) ?_) | (refine wpList_cmp (op := .eql) (by rfl) 68 rfl rfl rfl (lf_guard) ((fun w => run_b (eql_lf w _ _) (dec_same _))) ?_) | (refine wpList_cmp (op := .neq) (by rfl) 68 rfl rfl rfl (lf_guard) ((fun w => run_b (neq_lf w _ _) (dec_nots _))) ?_) | (refine wpList_cmp (op := .neq) (by rfl) 37 rfl rfl rfl (ft_guard) ((fun w => run_b (neq_ft w _ _) (dec_nots _))) ?_) | (refine wpList_cmp (op := .eql) (by rfl) 37 rfl rfl rfl (ft_guard) ((fun w => run_b (eql_ft w _ _) (dec_same _))) ?_))
  refine (cpk _).mono ?_
  rintro r5 w' ⟨rfl, hE⟩
  (try replace hm := hm.ext hE); (try replace h1 := h1.ext hE); (try replace h2 := h2.ext hE); (try replace h3 := h3.ext hE); (try replace h4 := h4.ext hE); (try replace h5 := h5.ext hE); (try replace h6 := h6.ext hE); (try replace h7 := h7.ext hE); (try replace h8 := h8.ext hE); (try replace h9 := h9.ext hE); (try replace k1 := k1.ext hE); (try replace k2 := k2.ext hE); (try replace k3 := k3.ext hE); (try replace hM := hM.ext hE); (try replace hN := hN.ext hE); (try replace hO := hO.ext hE); (try replace HE := Lib.hid (HE.out.trans hE)); (try replace r0 := r0.ext hE); (try replace r1 := r1.ext hE); (try replace r2 := r2.ext hE); (try replace r3 := r3.ext hE); (try replace r4 := r4.ext hE); (try replace r5 := r5.ext hE); (try replace r6 := r6.ext hE)
  clear hE cpk
  go_wp2_with ((first | (refine wpList_load_blk (by rfl) 29 _ rfl rfl h3 Tryz.underlying29 rfl (by kernel_rfl) ?_) | (refine wpList_load_blk (by rfl) 32 _ rfl rfl h2 Tryz.underlying32 rfl (by kernel_rfl) ?_))); refine (c1 _ (hMm _ HE.out) (hTE _ HE.out)).mono ?_; rintro e w' ⟨A1, B1, cc1, dd1, rfl, r1, hM, hE⟩; (try replace hm := hm.ext hE); (try replace h1 := h1.ext hE); (try replace h2 := h2.ext hE); (try replace h3 := h3.ext hE); (try replace h4 := h4.ext hE); (try replace h5 := h5.ext hE); (try replace h6 := h6.ext hE); (try replace h7 := h7.ext hE); (try replace h8 := h8.ext hE); (try replace h9 := h9.ext hE); (try replace k1 := k1.ext hE); (try replace k2 := k2.ext hE); (try replace k3 := k3.ext hE); (try replace hM := hM.ext hE); (try replace hN := hN.ext hE); (try replace hO := hO.ext hE); (try replace HE := Lib.hid (HE.out.trans hE)); (try replace r0 := r0.ext hE); (try replace r1 := r1.ext hE); (try replace r2 := r2.ext hE); (try replace r3 := r3.ext hE); (try replace r4 := r4.ext hE); (try replace r5 := r5.ext hE); (try replace r6 := r6.ext hE); clear hE
  clear c1
  obtain ⟨zz1, zz2, zz3, hE, h4, h5, h6⟩ := nh3 w' (hrC ⟨A1, cc1, H1⟩) #[.int .u64 (S : Int), .slice B1 M1.length dd1] (rsC R1); (try replace hm := hm.ext hE); (try replace h1 := h1.ext hE); (try replace h2 := h2.ext hE); (try replace h3 := h3.ext hE); (try replace h4 := h4.ext hE); (try replace h5 := h5.ext hE); (try replace h6 := h6.ext hE); (try replace h7 := h7.ext hE); (try replace h8 := h8.ext hE); (try replace h9 := h9.ext hE); (try replace k1 := k1.ext hE); (try replace k2 := k2.ext hE); (try replace k3 := k3.ext hE); (try replace hM := hM.ext hE); (try replace hN := hN.ext hE); (try replace hO := hO.ext hE); (try replace HE := Lib.hid (HE.out.trans hE)); (try replace r0 := r0.ext hE); (try replace r1 := r1.ext hE); (try replace r2 := r2.ext hE); (try replace r3 := r3.ext hE); (try replace r4 := r4.ext hE); (try replace r5 := r5.ext hE); (try replace r6 := r6.ext hE); clear hE
  go_upto_region 7 with (first | (refine wpList_store_blk rfl 29 _ _ rfl rfl rfl zz1 (hr_info _) (by simp [hrC_size]) (hrC_one _) ?_) | (refine wpList_store_blk rfl 32 _ _ rfl rfl rfl zz2 (by kernel_rfl) (by rfl) (by simp [Value.oneCell']) ?_) | ((refine wpList_store_blk rfl 39 _ _ rfl rfl rfl zz3 (rs_info _) (by simp [rsC_size]) (rsC_one _) ?_); clear zz1 zz2 zz3; generalize (((((w'.alloc (.cells #[.slice none 0 0, .int .u64 0, .int .u64 0, .int .u64 0, .int .i64 0, .bool false, .bool false, .int .i64 0] 29)).alloc (.cells #[.int .u64 0, .slice none 0 0] 32)).alloc (.cells #[.int .u64 0, .bool false, .int .i64 0, .int .u64 0] 39)).setRow w'.heap.size (hrC ⟨A1, cc1, H1⟩)).setRow (w'.heap.size + 1) #[.int .u64 (S : Int), .slice B1 M1.length dd1]).setRow (w'.heap.size + 1 + 1) (rsC R1) = X at *))
  simp only [Act.put, List.setIfInBounds_toArray, List.set_cons_zero, List.set_cons_succ]
  go_cut [70] from 54 to 70 (fun v wx => v = .bool false ∧ wx = X)
  case first =>
    have x0 := h4.hr.s
    have x7 := h4.hr.vi
    have y7 := h3.hr.vi
    have d0 : ((H1.L.length : Int) != 0) = false := by rw [q1]; rfl
    by_cases he : H1.vi = b.vi
    · have d1 : (H1.vi != b.vi) = false := by rw [he]; simp
      go_wp2_with fail
      go_meet
      case rel => exact ⟨rfl, rfl⟩
    · have d1 : (H1.vi != b.vi) = true := by simp [he]
      have d2 : (H1.vi != -1) = false := by
        rcases q2 with e | e
        · exact absurd e he
        · rw [e]; rfl
      go_wp2_with fail
      go_meet
      case rel => exact ⟨rfl, rfl⟩
  case rest =>
    obtain ⟨rfl, rfl⟩ := hcut
    clear q1 q2
    go_wp2_with ((first | (refine wpList_load_blk (by rfl) 29 _ rfl rfl h3 Tryz.underlying29 rfl (by kernel_rfl) ?_) | (refine wpList_load_blk (by rfl) 32 _ rfl rfl h2 Tryz.underlying32 rfl (by kernel_rfl) ?_))); refine (c2 _ (hMm _ HE.out) (hTE _ HE.out)).mono ?_; rintro e w' ⟨A2, B2, cc2, dd2, rfl, r2, hN, hE⟩; (try replace hm := hm.ext hE); (try replace h1 := h1.ext hE); (try replace h2 := h2.ext hE); (try replace h3 := h3.ext hE); (try replace h4 := h4.ext hE); (try replace h5 := h5.ext hE); (try replace h6 := h6.ext hE); (try replace h7 := h7.ext hE); (try replace h8 := h8.ext hE); (try replace h9 := h9.ext hE); (try replace k1 := k1.ext hE); (try replace k2 := k2.ext hE); (try replace k3 := k3.ext hE); (try replace hM := hM.ext hE); (try replace hN := hN.ext hE); (try replace hO := hO.ext hE); (try replace HE := Lib.hid (HE.out.trans hE)); (try replace r0 := r0.ext hE); (try replace r1 := r1.ext hE); (try replace r2 := r2.ext hE); (try replace r3 := r3.ext hE); (try replace r4 := r4.ext hE); (try replace r5 := r5.ext hE); (try replace r6 := r6.ext hE); clear hE
    clear c2 r2
    obtain ⟨zz1, zz2, zz3, hE, h7, h8, h9⟩ := nh3 w' (hrC ⟨A2, cc2, H2⟩) #[.int .u64 (S : Int), .slice B2 M2.length dd2] (rsC R2); (try replace hm := hm.ext hE); (try replace h1 := h1.ext hE); (try replace h2 := h2.ext hE); (try replace h3 := h3.ext hE); (try replace h4 := h4.ext hE); (try replace h5 := h5.ext hE); (try replace h6 := h6.ext hE); (try replace h7 := h7.ext hE); (try replace h8 := h8.ext hE); (try replace h9 := h9.ext hE); (try replace k1 := k1.ext hE); (try replace k2 := k2.ext hE); (try replace k3 := k3.ext hE); (try replace hM := hM.ext hE); (try replace hN := hN.ext hE); (try replace hO := hO.ext hE); (try replace HE := Lib.hid (HE.out.trans hE)); (try replace r0 := r0.ext hE); (try replace r1 := r1.ext hE); (try replace r2 := r2.ext hE); (try replace r3 := r3.ext hE); (try replace r4 := r4.ext hE); (try replace r5 := r5.ext hE); (try replace r6 := r6.ext hE); clear hE
    go_wp2_with (first | (first | (refine wpList_store_blk rfl 29 _ _ rfl rfl rfl zz1 (hr_info _) (by simp [hrC_size]) (hrC_one _) ?_) | (refine wpList_store_blk rfl 32 _ _ rfl rfl rfl zz2 (by kernel_rfl) (by rfl) (by simp [Value.oneCell']) ?_) | ((refine wpList_store_blk rfl 39 _ _ rfl rfl rfl zz3 (rs_info _) (by simp [rsC_size]) (rsC_one _) ?_); clear zz1 zz2 zz3; generalize (((((w'.alloc (.cells #[.slice none 0 0, .int .u64 0, .int .u64 0, .int .u64 0, .int .i64 0, .bool false, .bool false, .int .i64 0] 29)).alloc (.cells #[.int .u64 0, .slice none 0 0] 32)).alloc (.cells #[.int .u64 0, .bool false, .int .i64 0, .int .u64 0] 39)).setRow w'.heap.size (hrC ⟨A2, cc2, H2⟩)).setRow (w'.heap.size + 1) #[.int .u64 (S : Int), .slice B2 M2.length dd2]).setRow (w'.heap.size + 1 + 1) (rsC R2) = X at *)) | (refine wpList_load_blk (by rfl) 29 _ rfl rfl h3 Tryz.underlying29 rfl (by kernel_rfl) ?_) | (refine wpList_load_blk (by rfl) 32 _ rfl rfl h8 Tryz.underlying32 rfl (by kernel_rfl) ?_))
    refine (c3 _ _ _ hN (hTE _ HE.out)).mono ?_
    rintro r5 w' ⟨A3, B3, cc3, dd3, rfl, r3, hO, hE⟩
    (try replace hm := hm.ext hE); (try replace h1 := h1.ext hE); (try replace h2 := h2.ext hE); (try replace h3 := h3.ext hE); (try replace h4 := h4.ext hE); (try replace h5 := h5.ext hE); (try replace h6 := h6.ext hE); (try replace h7 := h7.ext hE); (try replace h8 := h8.ext hE); (try replace h9 := h9.ext hE); (try replace k1 := k1.ext hE); (try replace k2 := k2.ext hE); (try replace k3 := k3.ext hE); (try replace hM := hM.ext hE); (try replace hN := hN.ext hE); (try replace hO := hO.ext hE); (try replace HE := Lib.hid (HE.out.trans hE)); (try replace r0 := r0.ext hE); (try replace r1 := r1.ext hE); (try replace r2 := r2.ext hE); (try replace r3 := r3.ext hE); (try replace r4 := r4.ext hE); (try replace r5 := r5.ext hE); (try replace r6 := r6.ext hE)
    clear hE c3 r3 hO h7 h8 h9 hN
    obtain ⟨zz1, zz2, zz3, hE, h7, h8, h9⟩ := nh3 w' (hrC ⟨A3, cc3, H3⟩) #[.int .u64 (S : Int), .slice B3 M3.length dd3] (rsC R3); (try replace hm := hm.ext hE); (try replace h1 := h1.ext hE); (try replace h2 := h2.ext hE); (try replace h3 := h3.ext hE); (try replace h4 := h4.ext hE); (try replace h5 := h5.ext hE); (try replace h6 := h6.ext hE); (try replace h7 := h7.ext hE); (try replace h8 := h8.ext hE); (try replace h9 := h9.ext hE); (try replace k1 := k1.ext hE); (try replace k2 := k2.ext hE); (try replace k3 := k3.ext hE); (try replace hM := hM.ext hE); (try replace hN := hN.ext hE); (try replace hO := hO.ext hE); (try replace HE := Lib.hid (HE.out.trans hE)); (try replace r0 := r0.ext hE); (try replace r1 := r1.ext hE); (try replace r2 := r2.ext hE); (try replace r3 := r3.ext hE); (try replace r4 := r4.ext hE); (try replace r5 := r5.ext hE); (try replace r6 := r6.ext hE); clear hE
    go_wp2_with (first | (first | (refine wpList_store_blk rfl 29 _ _ rfl rfl rfl zz1 (hr_info _) (by simp [hrC_size]) (hrC_one _) ?_) | (refine wpList_store_blk rfl 32 _ _ rfl rfl rfl zz2 (by kernel_rfl) (by rfl) (by simp [Value.oneCell']) ?_) | ((refine wpList_store_blk rfl 39 _ _ rfl rfl rfl zz3 (rs_info _) (by simp [rsC_size]) (rsC_one _) ?_); clear zz1 zz2 zz3; generalize (((((w'.alloc (.cells #[.slice none 0 0, .int .u64 0, .int .u64 0, .int .u64 0, .int .i64 0, .bool false, .bool false, .int .i64 0] 29)).alloc (.cells #[.int .u64 0, .slice none 0 0] 32)).alloc (.cells #[.int .u64 0, .bool false, .int .i64 0, .int .u64 0] 39)).setRow w'.heap.size (hrC ⟨A3, cc3, H3⟩)).setRow (w'.heap.size + 1) #[.int .u64 (S : Int), .slice B3 M3.length dd3]).setRow (w'.heap.size + 1 + 1) (rsC R3) = X at *)) | (refine wpList_load_blk (by rfl) 29 _ rfl rfl h4 Tryz.underlying29 rfl (by kernel_rfl) ?_) | (refine wpList_load_blk (by rfl) 32 _ rfl rfl h5 Tryz.underlying32 rfl (by kernel_rfl) ?_))
    refine (c4 _ _ _ _ _ r1 hM (hTE _ HE.out)).mono ?_
    rintro r5 w' ⟨A4, B4, cc4, dd4, rfl, r4, hO, hE⟩
    (try replace hm := hm.ext hE); (try replace h1 := h1.ext hE); (try replace h2 := h2.ext hE); (try replace h3 := h3.ext hE); (try replace h4 := h4.ext hE); (try replace h5 := h5.ext hE); (try replace h6 := h6.ext hE); (try replace h7 := h7.ext hE); (try replace h8 := h8.ext hE); (try replace h9 := h9.ext hE); (try replace k1 := k1.ext hE); (try replace k2 := k2.ext hE); (try replace k3 := k3.ext hE); (try replace hM := hM.ext hE); (try replace hN := hN.ext hE); (try replace hO := hO.ext hE); (try replace HE := Lib.hid (HE.out.trans hE)); (try replace r0 := r0.ext hE); (try replace r1 := r1.ext hE); (try replace r2 := r2.ext hE); (try replace r3 := r3.ext hE); (try replace r4 := r4.ext hE); (try replace r5 := r5.ext hE); (try replace r6 := r6.ext hE)
    clear hE c4 r4 hO h7 h8 hM r1
    obtain ⟨zz1, zz2, zz3, hE, k1, k2, k3⟩ := nh3 w' (hrC ⟨A4, cc4, H4⟩) #[.int .u64 (S : Int), .slice B4 M4.length dd4] (rsC R4); (try replace hm := hm.ext hE); (try replace h1 := h1.ext hE); (try replace h2 := h2.ext hE); (try replace h3 := h3.ext hE); (try replace h4 := h4.ext hE); (try replace h5 := h5.ext hE); (try replace h6 := h6.ext hE); (try replace h7 := h7.ext hE); (try replace h8 := h8.ext hE); (try replace h9 := h9.ext hE); (try replace k1 := k1.ext hE); (try replace k2 := k2.ext hE); (try replace k3 := k3.ext hE); (try replace hM := hM.ext hE); (try replace hN := hN.ext hE); (try replace hO := hO.ext hE); (try replace HE := Lib.hid (HE.out.trans hE)); (try replace r0 := r0.ext hE); (try replace r1 := r1.ext hE); (try replace r2 := r2.ext hE); (try replace r3 := r3.ext hE); (try replace r4 := r4.ext hE); (try replace r5 := r5.ext hE); (try replace r6 := r6.ext hE); clear hE
    have e1 : ∀ w, (binOp .eql 37 (.agg (ftC R4.f)) (.agg (ftC R1.f))).run Tryz.prog w = .ok (.bool true) w := fun w => by rw [P1.out]; exact run_b (eql_ft w _ _) (dec_same _)
    have e2 : ∀ w, (binOp .eql 37 (.agg (ftC R3.f)) (.agg (ftC R1.f))).run Tryz.prog w = .ok (.bool true) w := fun w => by rw [P2.out]; exact run_b (eql_ft w _ _) (dec_same _)
    go_upto_region 12 with (first | (refine wpList_store_blk rfl 29 _ _ rfl rfl rfl zz1 (hr_info _) (by simp [hrC_size]) (hrC_one _) ?_) | (refine wpList_store_blk rfl 32 _ _ rfl rfl rfl zz2 (by kernel_rfl) (by rfl) (by simp [Value.oneCell']) ?_) | ((refine wpList_store_blk rfl 39 _ _ rfl rfl rfl zz3 (rs_info _) (by simp [rsC_size]) (rsC_one _) ?_); clear zz1 zz2 zz3; generalize (((((w'.alloc (.cells #[.slice none 0 0, .int .u64 0, .int .u64 0, .int .u64 0, .int .i64 0, .bool false, .bool false, .int .i64 0] 29)).alloc (.cells #[.int .u64 0, .slice none 0 0] 32)).alloc (.cells #[.int .u64 0, .bool false, .int .i64 0, .int .u64 0] 39)).setRow w'.heap.size (hrC ⟨A4, cc4, H4⟩)).setRow (w'.heap.size + 1) #[.int .u64 (S : Int), .slice B4 M4.length dd4]).setRow (w'.heap.size + 1 + 1) (rsC R4) = X at *))
    simp only [Act.put, List.setIfInBounds_toArray, List.set_cons_zero, List.set_cons_succ]
    go_wp2_with (first | (refine wpList_load_part (by rfl) 37 _ rfl rfl k3 (rsC_f R4) Tryz.underlying37 rfl (ft_info _) ?_) | (refine wpList_load_part (by rfl) 37 _ rfl rfl h6 (rsC_f R1) Tryz.underlying37 rfl (ft_info _) ?_) | (refine wpList_load_part (by rfl) 37 _ rfl rfl h9 (rsC_f R3) Tryz.underlying37 rfl (ft_info _) ?_) | (refine wpList_cmp (op := .eql) (by rfl) 37 rfl rfl rfl (ft_guard) (e1) ?_) | (refine wpList_cmp (op := .eql) (by rfl) 37 rfl rfl rfl (ft_guard) (e2) ?_))
    go_ret
    exact ⟨rfl, HE.out⟩
end Go.Proofs.YtledkljbegpdpaaGreatDoor
