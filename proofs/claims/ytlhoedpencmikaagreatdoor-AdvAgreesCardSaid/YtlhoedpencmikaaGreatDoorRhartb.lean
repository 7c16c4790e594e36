/- The document's answers for layer 16 (package atlasref16): Agrees. -/
import Derived.Test.YtlhoedpencmikaaGreatDoorRhart
import Derived.Test.YtlhoedpencmikaaGreatDoorGrtlb
import Derived.Test.YtlhoedpencmikaaGreatDoorGrten
import Derived.Test.YtlhoedpencmikaaGreatDoorInvb
namespace Go.Proofs.YtlhoedpencmikaaGreatDoor
open Go.ChangeShapes Go.WideShapes Go.ChangeAt Go.RowKit
set_option linter.unusedVariables false
set_option linter.unusedSimpArgs false
set_option maxRecDepth 10000

theorem ptC_pp (p : Pt) : (ptC p)[9]? = some (.int .u64 (p.pp : Int)) := by simp only [ptC_eq]; rfl
theorem ptC_a (p : Pt) : (ptC p)[6]? = some (.bool p.a) := by simp only [ptC_eq]; rfl
theorem ptC_d (p : Pt) : (ptC p)[7]? = some (.bool p.d) := by simp only [ptC_eq]; rfl
theorem pmC_r (p : Pm) : (pmC p)[0]? = some (.bool p.r) := by simp only [pmC_eq]; rfl
theorem pmC_w (p : Pm) : (pmC p)[1]? = some (.bool p.w) := by simp only [pmC_eq]; rfl
theorem pmC_x (p : Pm) : (pmC p)[2]? = some (.bool p.x) := by simp only [pmC_eq]; rfl
theorem pmC_u (p : Pm) : (pmC p)[3]? = some (.bool p.u) := by simp only [pmC_eq]; rfl
theorem ag_le {M : List En} (f : En → Bool) {k : Nat} (hk : k < M.length) (h : ∀ j, j < k → f (M.getD j e0) = true) (hx : f (M.getD k e0) = true) : ∀ j, j < k + 1 → f (M.getD j e0) = true := fun j hj => by
  rcases Nat.lt_or_ge j k with h1 | h1
  · exact h j h1
  · obtain rfl : j = k := by omega
    exact hx
theorem ag_all {M : List En} (f : En → Bool) (h : ∀ j, j < M.length → f (M.getD j e0) = true) : M.all f = true := by
  rw [List.all_eq_true]
  intro e he
  obtain ⟨j, hj, rfl⟩ := List.mem_iff_getElem.1 he
  have := h j hj
  simpa [List.getD, hj] using this
theorem ag_no {M : List En} (f : En → Bool) {k : Nat} (hk : k < M.length) (hx : f (M.getD k e0) = false) : M.all f = false := by
  rw [Bool.eq_false_iff]
  intro ha
  rw [List.all_eq_true] at ha
  have := ha _ (getD_mem (d := e0) hk)
  rw [hx] at this; cases this
def okA (S : Nat) (K : List (Nat × Nat)) (p : Sp) (e : En) : Bool := !mineE p.ai e || agB S K p.pp e
theorem ok_pure {p q : Prop} [Decidable p] [Decidable q] {ed xd : Bool} (hp : p) (hq : q) (er xr ew xw ex xx U : Bool) (hd : (!ed || xd) = true) : (!false && (decide p && (decide q && (true && ((!ed || xd) && !(er && !xr || (ew && !xw || (ex && !xx || U)))))))) = (!U && !(er && !xr || (ew && !xw || ex && !xx))) := by
  rw [hd, decide_eq_true hp, decide_eq_true hq]
  revert er xr ew xw ex xx U
  decide
theorem ok_form (S : Nat) (K : List (Nat × Nat)) (p : Sp) (e : En) (hm : mineE p.ai e = true) : okA S K p e = (!(fltF (lookN S K p.pp (fstN e)).so 1 (fstN e)).b && (decide ((lookN S K p.pp (fstN e)).lf.lv = e.l) && (decide ((lookN S K p.pp (fstN e)).lf.pt.pp = e.pp) && ((lookN S K p.pp (fstN e)).lf.pt.a && ((!e.d || (lookN S K p.pp (fstN e)).lf.pt.d) && !(e.pm.r && !(permP (lookN S K p.pp (fstN e)).lf.pt).r || (e.pm.w && !(permP (lookN S K p.pp (fstN e)).lf.pt).w || (e.pm.x && !(permP (lookN S K p.pp (fstN e)).lf.pt).x || (e.pm.u != (permP (lookN S K p.pp (fstN e)).lf.pt).u))))))))) := by
  unfold okA agB pmLess
  rw [hm]
  generalize lookN S K p.pp (fstN e) = Z
  generalize permP Z.lf.pt = P
  have hb : (fltF Z.so 1 (fstN e)).b = !decide (Z.so = 0) := by
    generalize fstN e = q
    unfold fltF
    by_cases h0 : Z.so = 0
    · rw [if_pos h0, decide_eq_true h0]; rfl
    · rw [if_neg h0, decide_eq_false h0]; rfl
  rw [hb, Bool.not_not, Bool.not_true, Bool.false_or]
set_option maxRecDepth 100000 in
set_option maxHeartbeats 4000000 in
theorem ragrees16_c (A : Option Addr) (h : Hr) (c S : Nat) (B : Option Addr) (K : List (Nat × Nat)) (d : Nat) (hrt : rightT h.L = true) (hpp : h.sp.pp < 17592186044416) (w : World) (hr : RowV KS w A h.L c) (hM : Mem w S B K d) :
    Calls Tryz.prog 16 #[.agg (hrC ⟨A, c, h⟩), .agg #[.int .u64 (S : Int), .slice B K.length d]] w fun r w' => r = .returned (.bool (agH S K h)) ∧ Ext w w' := by
  have h1 : Blk ((w.alloc (.cells (hrC ⟨A, c, h⟩) 29)).alloc (.cells #[.int .u64 (S : Int), .slice B K.length d] 32)) w.heap.size 29 (hrC ⟨A, c, h⟩) := (Blk.new w _ _).alloc _
  have h2 : Blk ((w.alloc (.cells (hrC ⟨A, c, h⟩) 29)).alloc (.cells #[.int .u64 (S : Int), .slice B K.length d] 32)) (w.heap.size + 1) 32 #[.int .u64 (S : Int), .slice B K.length d] := blk_at (by simp)
  have HE := Lib.hid (((Ext.refl w).alloc (.cells (hrC ⟨A, c, h⟩) 29)).alloc (.cells #[.int .u64 (S : Int), .slice B K.length d] 32))
  have hl16 := rt_len hrt
  have cae := fun w k => rall14_c A h.L c (by omega) w k
  unfold MadeE at cae
  have hvp : ∀ e ∈ allT h.L, e.vp < 134217728 := fun e he => (may_lt (all_may hrt he)).1
  have hrow := hr.ext HE.out
  clear hr
  rw [show agH S K h = (allT h.L).all (okA S K h.sp) from by unfold agH okA; rfl]
  generalize allT h.L = M at *
  go_enter Tryz.func16, Tryz.ntmps16
  go_wp2_with (refine wpList_load_part (by rfl) 24 _ rfl rfl h1 (hrC_tlb A c h) Tryz.underlying24 rfl (tb_info _) ?_)
  refine (cae _ hrow).mono ?_
  rintro e w' ⟨A3, c3, rfl, hr3, -, hE⟩
  replace h1 := h1.ext hE; replace h2 := h2.ext hE; replace HE := Lib.hid (HE.out.trans hE); 
  clear hE cae hrow
  have hMM := hM.ext HE.out
  clear hM
  have hrx : ∀ W : World, Ext w' W → RowV KE W A3 M c3 := fun W h => hr3.ext h
  have hMx : ∀ W : World, Ext w' W → Mem W S B K d := fun W h => hMM.ext h
  clear hMM
  have hEm : M.length ≤ 9223372036854775807 := Nat.le_trans hr3.2.2.1 hr3.2.2.2
  clear hr3
  have HE0 := Lib.hid (Ext.refl w')
  have b1 := h1
  have b2 := h2
  clear h1 h2
  go_wp2
  go_loopw [6] (fun v6 wr => ∃ k : Nat, k ≤ M.length ∧ v6 = .int .i64 k ∧ Hid (∀ j, j < k → okA S K h.sp (M.getD j e0) = true) ∧ Ext w' wr) (fun v6 _ => (M.length - intOf v6).toNat)
  case atStart => exact ⟨0, by omega, rfl, Lib.hid fun j hj => absurd hj (by omega), Ext.refl _⟩
  case round =>
    obtain ⟨k, hk, rfl, I, hE⟩ := hrel
    have HB := Lib.hid hE
    clear hE
    by_cases hlt : k < M.length
    · have hkz : (k : Int) < (M.length : Int) := by omega
      obtain ⟨b, off, rfl, hb, hr4⟩ := (hrx _ (Ext.refl _)).some (by omega)
      have e2 : wr.rangeAt b (off + k * 11) (enC (M.getD k e0)).toList := rgx_ext HB.out (hr4 k hlt)
      have hal := @ag_all M (okA S K h.sp)
      have I1 := Lib.hid (ag_le (okA S K h.sp) hlt I.out)
      have N1 := Lib.hid (ag_no (okA S K h.sp) hlt)
      have hev := hvp _ (getD_mem (d := e0) hlt)
      clear hr4 hrx hk I hvp hal
      generalize M.getD k e0 = e at *
      have h1 := b1.ext HB.out
      have h2 := b2.ext HB.out
      have h3 := Blk.new wr 66 (enC e)
      have x1 := (h3.cell 1).trans (enC_n e)
      have x2 := (h3.cell 2).trans (enC_g e)
      have x4 := (h3.cell 4).trans (enC_vp e)
      have y2 := (h1.alloc (.cells (enC e) 66)).hr.ai
      have cof := fun w => rof5_c (e.vp : Int) (by omega) (by omega) w
      rw [← fst_eq] at cof
      have clk := fun w (hM : Mem w S B K d) => rlook_c hM hpp (fst_lt e) 1 (by omega)
      generalize hX : (lookN S K h.sp.pp (fstN e)).lf = X at clk
      generalize hY : fltF (lookN S K h.sp.pp (fstN e)).so 1 (fstN e) = Y at clk
      cases hg : e.g
      · rw [hg] at x2
        by_cases hn : e.n = h.sp.ai
        · have hok := ok_form S K h.sp e (by unfold mineE; rw [hg, hn]; simp)
          rw [hn] at x1
          go_wp2_with (first | (refine wpList_load_rng (w := wr) (by rfl) 66 _ rfl rfl e2 Tryz.underlying66 rfl (en_info _) ?_) | (refine wpList_store_new rfl 66 _ _ rfl (enC _) _ _ rfl rfl (en_info _) (by simp [enC_size]) (enC_one _) ?_))
          replace h1 := h1.alloc (.cells (enC e) 66)
          replace h2 := h2.alloc (.cells (enC e) 66)
          have HB2 := Lib.hid (HB.out.trans ((Ext.refl wr).alloc (.cells (enC e) 66)))
          clear x1 x2 x4 y2 e2
          generalize wr.alloc (.cells (enC e) 66) = W1 at *
          have hgW : wr.heap.size < W1.heap.size := h3.lt
          replace h1 := Blk.drew h1
          replace h2 := Blk.drew h2
          replace h3 := Blk.drew h3
          refine wp_region_puts (X := (Nat → Nat) × Unit) (fun x => [(some 36, .agg #[.int .u64 (S : Int), .slice B K.length d]), (some 37, .pointer (some ⟨w.heap.size, 1, none⟩)), (some 38, .pointer (some ⟨w.heap.size, 3, none⟩)), (some 39, .int .u64 (h.sp.pp : Int)), (some 40, .pointer (some ⟨wr.heap.size, 4, none⟩)), (some 41, .int .u64 (e.vp : Int)), (some 42, .int .u64 (fstN e : Int)), (some 43, .tuple #[.agg (lfC X), .agg (ftC Y)]), (some 35, .tuple #[.agg (lfC X), .agg (ftC Y)]), (some 44, .agg (lfC X)), (some 45, .agg (ftC Y)), (some 8, .pointer (some ⟨x.1 0, 0, none⟩)), (some 9, .pointer (some ⟨x.1 1, 0, none⟩)), (none, undef), (none, undef)]) (FB W1.drew 7 (fun _ _ => True) (fun _ _ => True) [⟨11, 13, 75, #[.int .i64 0, .int .u64 0, .bool false, .bool false, .bool false, .bool false, .bool false, .bool false, .bool false, .bool false, .int .u64 0, .int .u64 0, .int .u64 0], fun _ => lfC X⟩, ⟨12, 14, 54, #[.bool false, .int .i64 0, .int .u64 0], fun _ => ftC Y⟩]) (by kernel_rfl) (by kernel_rfl) (fun _ => 0, ()) (FB.start fun _ => not_yet) ?_ ?_
          · intro x bs wz q o hlen hk hbk hafter hF
            have hq15 : q < 15 := by have := (List.getElem?_eq_some_iff.1 hk).1; simpa using this
            have hq : q = 0 ∨ q = 1 ∨ q = 2 ∨ q = 3 ∨ q = 4 ∨ q = 5 ∨ q = 6 ∨ q = 7 ∨ q = 8 ∨ q = 9 ∨ q = 10 ∨ q = 11 ∨ q = 12 ∨ q = 13 ∨ q = 14 := by omega
            clear hq15
            rcases hq with rfl | rfl | rfl | rfl | rfl | rfl | rfl | rfl | rfl | rfl | rfl | rfl | rfl | rfl | rfl
            · obtain rfl := Option.some.inj hk
              refine op_load (g := w.heap.size + 1) rfl ((eval_out (by rfl)).trans rfl) (h2.ext hF.e) rfl Tryz.underlying32 (by kernel_rfl) (next_at x rfl (by kernel_rfl) hbk rfl (fun _ _ => rfl) (hF.read (by decide) (two_boxes (p := fun _ b => _ ≠ b.al ∧ _ ≠ b.st) (by simp) (by simp))))
            · obtain rfl := Option.some.inj hk
              refine op_read (x := .tmp 2) _ ((eval_out (by rfl)).trans rfl) (fun E he => by simp [go_sem, execOp, he]) (next_at x rfl (by kernel_rfl) hbk rfl (fun _ _ => rfl) (hF.read (by decide) (two_boxes (p := fun _ b => _ ≠ b.al ∧ _ ≠ b.st) (by simp) (by simp))))
            · obtain rfl := Option.some.inj hk
              refine op_read (x := .tmp 37) _ (eval_at (i := 1) (by kernel_rfl) rfl (hafter ⟨1, .data⟩ (by simp) rfl) (Nat.le_of_ble_eq_true rfl)) (fun E he => by simp [go_sem, execOp, he]) (next_at x rfl (by kernel_rfl) hbk rfl (fun _ _ => rfl) (hF.read (by decide) (two_boxes (p := fun _ b => _ ≠ b.al ∧ _ ≠ b.st) (by simp) (by simp))))
            · obtain rfl := Option.some.inj hk
              have hc := (h1.ext hF.e).hr.pp
              refine op_read (x := .tmp 38) _ (eval_at (i := 2) (by kernel_rfl) rfl (hafter ⟨2, .data⟩ (by simp) rfl) (Nat.le_of_ble_eq_true rfl)) (fun E he => by simp [go_sem, execOp, he, hc]) (next_at x rfl (by kernel_rfl) hbk rfl (fun _ _ => rfl) (hF.read (by decide) (two_boxes (p := fun _ b => _ ≠ b.al ∧ _ ≠ b.st) (by simp) (by simp))))
            · obtain rfl := Option.some.inj hk
              refine op_read (x := .tmp 7) _ ((eval_out (by rfl)).trans rfl) (fun E he => by simp [go_sem, execOp, he]) (next_at x rfl (by kernel_rfl) hbk rfl (fun _ _ => rfl) (hF.read (by decide) (two_boxes (p := fun _ b => _ ≠ b.al ∧ _ ≠ b.st) (by simp) (by simp))))
            · obtain rfl := Option.some.inj hk
              have hc := ((h3.ext hF.e).cell 4).trans (enC_vp e)
              refine op_read (x := .tmp 40) _ (eval_at (i := 4) (by kernel_rfl) rfl (hafter ⟨4, .data⟩ (by simp) rfl) (Nat.le_of_ble_eq_true rfl)) (fun E he => by simp [go_sem, execOp, he, hc]) (next_at x rfl (by kernel_rfl) hbk rfl (fun _ _ => rfl) (hF.read (by decide) (two_boxes (p := fun _ b => _ ≠ b.al ∧ _ ≠ b.st) (by simp) (by simp))))
            · obtain rfl := Option.some.inj hk
              refine op_call (cof wz) rfl Tryz.func37 rfl rfl (args1 (eval_at (i := 5) (by kernel_rfl) rfl (hafter ⟨5, .data⟩ (by simp) rfl) (Nat.le_of_ble_eq_true rfl))) ?_
              rintro r w2 ⟨rfl, hE⟩
              exact ⟨_, rfl, (next_at x rfl (by kernel_rfl) hbk rfl (fun _ _ => rfl) ((hF.read (by decide) (two_boxes (p := fun _ b => _ ≠ b.al ∧ _ ≠ b.st) (by simp) (by simp))).ext hE fun _ _ => trivial))⟩
            · obtain rfl := Option.some.inj hk
              refine op_call (clk wz ((hMx _ (HB2.out.drew)).ext hF.e)) rfl Tryz.func30 rfl rfl (args4 (eval_at (i := 0) (by kernel_rfl) rfl (hafter ⟨0, .data⟩ (by simp) rfl) (Nat.le_of_ble_eq_true rfl)) (eval_at (i := 3) (by kernel_rfl) rfl (hafter ⟨3, .data⟩ (by simp) rfl) (Nat.le_of_ble_eq_true rfl)) (eval_at (i := 6) (by kernel_rfl) rfl (hafter ⟨6, .data⟩ (by simp) rfl) (Nat.le_of_ble_eq_true rfl)) rfl) ?_
              rintro r w2 ⟨rfl, hE⟩
              exact ⟨_, rfl, (next_at x rfl (by kernel_rfl) hbk rfl (fun _ _ => rfl) (hF.tell hbk hE trivial (fun _ _ _ => trivial) (two_boxes (p := fun _ b => b.al ≠ _ ∧ b.st ≠ _) (by simp) (by simp))))⟩
            · obtain rfl := Option.some.inj hk
              refine op_read (x := .tmp 43) _ (eval_at (i := 7) (by kernel_rfl) rfl (hafter ⟨7, .data⟩ (by simp) rfl) (Nat.le_of_ble_eq_true rfl)) (fun E he => by simp [go_sem, execOp, he]) (next_at x rfl (by kernel_rfl) hbk rfl (fun _ _ => rfl) (hF.read (by decide) (two_boxes (p := fun _ b => _ ≠ b.al ∧ _ ≠ b.st) (by simp) (by simp))))
            · obtain rfl := Option.some.inj hk
              refine op_read (x := .tmp 35) _ (eval_at (i := 8) (by kernel_rfl) rfl (hafter ⟨8, .data⟩ (by simp) rfl) (Nat.le_of_ble_eq_true rfl)) (fun E he => by simp [go_sem, execOp, he]) (next_at x rfl (by kernel_rfl) hbk rfl (fun _ _ => rfl) (hF.read (by decide) (two_boxes (p := fun _ b => _ ≠ b.al ∧ _ ≠ b.st) (by simp) (by simp))))
            · obtain rfl := Option.some.inj hk
              refine op_read (x := .tmp 35) _ (eval_at (i := 8) (by kernel_rfl) rfl (hafter ⟨8, .data⟩ (by simp) rfl) (Nat.le_of_ble_eq_true rfl)) (fun E he => by simp [go_sem, execOp, he]) (next_at x rfl (by kernel_rfl) hbk rfl (fun _ _ => rfl) (hF.read (by decide) (two_boxes (p := fun _ b => _ ≠ b.al ∧ _ ≠ b.st) (by simp) (by simp))))
            · obtain rfl := Option.some.inj hk
              refine op_alloc #[.int .i64 0, .int .u64 0, .bool false, .bool false, .bool false, .bool false, .bool false, .bool false, .bool false, .bool false, .int .u64 0, .int .u64 0, .int .u64 0] 75 (fun E => by simp [go_sem, execOp]) ?_
              refine next_at (fun j => if j = 0 then wz.heap.size else x.1 j, x.2) rfl (by kernel_rfl) hbk rfl ?_ (hF.make (i := 0) rfl hbk (by simp) (fun _ _ => trivial) (fun _ _ => trivial) (two_boxes (p := fun j b => (b.al = _ ↔ j = _) ∧ b.st ≠ _) (by simp) (by simp)))
              intro j hj
              match j, hj with
              | 0, _ => rfl
              | 1, _ => rfl
              | 2, _ => rfl
              | 3, _ => rfl
              | 4, _ => rfl
              | 5, _ => rfl
              | 6, _ => rfl
              | 7, _ => rfl
              | 8, _ => rfl
              | 9, _ => rfl
              | 10, _ => rfl
              | 12, _ => rfl
              | 13, _ => rfl
              | 14, _ => rfl
              | 11, hj => rw [hbk] at hj; cases hj
              | n + 15, _ => rfl
            · obtain rfl := Option.some.inj hk
              refine op_alloc #[.bool false, .int .i64 0, .int .u64 0] 54 (fun E => by simp [go_sem, execOp]) ?_
              refine next_at (fun j => if j = 1 then wz.heap.size else x.1 j, x.2) rfl (by kernel_rfl) hbk rfl ?_ (hF.make (i := 1) rfl hbk (by simp) (fun _ _ => trivial) (fun _ _ => trivial) (two_boxes (p := fun j b => (b.al = _ ↔ j = _) ∧ b.st ≠ _) (by simp) (by simp)))
              intro j hj
              match j, hj with
              | 0, _ => rfl
              | 1, _ => rfl
              | 2, _ => rfl
              | 3, _ => rfl
              | 4, _ => rfl
              | 5, _ => rfl
              | 6, _ => rfl
              | 7, _ => rfl
              | 8, _ => rfl
              | 9, _ => rfl
              | 10, _ => rfl
              | 11, _ => rfl
              | 13, _ => rfl
              | 14, _ => rfl
              | 12, hj => rw [hbk] at hj; cases hj
              | n + 15, _ => rfl
            · obtain rfl := Option.some.inj hk
              have h4 := hF.b 0 _ rfl (hafter ⟨11, .data⟩ (by simp) rfl)
              rw [if_neg (by show ¬ bs[13]? = some true; rw [hbk]; decide)] at h4
              refine op_store (g := x.1 0) (cs := lfC X) rfl (eval_at (i := 11) (by kernel_rfl) rfl (hafter ⟨11, .data⟩ (by simp) rfl) (Nat.le_of_ble_eq_true rfl)) (eval_at (i := 9) (by kernel_rfl) rfl (hafter ⟨9, .data⟩ (by simp) rfl) (Nat.le_of_ble_eq_true rfl)) h4.2 (lf_info _) (by simp [lfC_size]) (lfC_one _) (next_at x rfl (by kernel_rfl) hbk rfl (fun _ _ => rfl) (hF.fill (i := 0) rfl hbk (hafter ⟨11, .data⟩ (by simp) rfl) (hafter ⟨7, .phase⟩ (by simp) rfl) (by simp) (fun _ _ _ _ _ => trivial) (two_boxes (p := fun j b => (b.st = _ ↔ j = _) ∧ b.al ≠ _) (by simp) (by simp))))
            · obtain rfl := Option.some.inj hk
              have h4 := hF.b 1 _ rfl (hafter ⟨12, .data⟩ (by simp) rfl)
              rw [if_neg (by show ¬ bs[14]? = some true; rw [hbk]; decide)] at h4
              refine op_store (g := x.1 1) (cs := ftC Y) rfl (eval_at (i := 12) (by kernel_rfl) rfl (hafter ⟨12, .data⟩ (by simp) rfl) (Nat.le_of_ble_eq_true rfl)) (eval_at (i := 10) (by kernel_rfl) rfl (hafter ⟨10, .data⟩ (by simp) rfl) (Nat.le_of_ble_eq_true rfl)) h4.2 (ft_info _) (by simp [ftC_size]) (ftC_one _) (next_at x rfl (by kernel_rfl) hbk rfl (fun _ _ => rfl) (hF.fill (i := 1) rfl hbk (hafter ⟨12, .data⟩ (by simp) rfl) (hafter ⟨7, .phase⟩ (by simp) rfl) (by simp) (fun _ _ _ _ _ => trivial) (two_boxes (p := fun j b => (b.st = _ ↔ j = _) ∧ b.al ≠ _) (by simp) (by simp))))
          · intro x wz hF
            have hE := hF.e
            obtain ⟨-, h4⟩ : _ ∧ Blk wz (x.1 0) 75 (lfC X) := hF.b 0 _ rfl rfl
            obtain ⟨-, h5⟩ : _ ∧ Blk wz (x.1 1) 54 (ftC Y) := hF.b 1 _ rfl rfl
            have h45 : x.1 0 ≠ x.1 1 := hF.n 0 1 _ _ (by decide) rfl rfl rfl rfl
            clear hF
            simp only [List.length, List.replicate, putsB, if_true]
            generalize x.1 0 = p4 at *
            generalize x.1 1 = p5 at *
            clear x
            replace h3 := h3.ext hE
            replace HB2 := Lib.hid (HB2.out.trans (Ext.of_drew hE))
            have cpm := fun w => rperm_c X.pt w
            clear hE h1 h2 cof clk hMx
            go_wp2_with (refine wpList_load_rng (by rfl) 73 _ rfl rfl h4.lf_pt Tryz.underlying73 rfl (pt_info _) ?_)
            refine (cpm _).mono ?_
            rintro r w5 ⟨rfl, hE⟩
            replace h3 := h3.ext hE
            replace h4 := h4.ext hE
            replace h5 := h5.ext hE
            replace HB2 := Lib.hid (HB2.out.trans hE)
            clear hE cpm
            have h6 := Blk.new w5 64 (pmC (permP X.pt))
            have a5 := (h5.alloc (.cells (pmC (permP X.pt)) 64)).ft.1
            have a4 := h4.alloc (.cells (pmC (permP X.pt)) 64)
            have a3 := h3.alloc (.cells (pmC (permP X.pt)) 64)
            have q0 := a4.lf_lv
            have q9 := rng_cell a4.lf_pt 9 (ptC_pp X.pt)
            have q6 := rng_cell a4.lf_pt 6 (ptC_a X.pt)
            have q7 := rng_cell a4.lf_pt 7 (ptC_d X.pt)
            have s3 := (a3.cell 3).trans (enC_l e)
            have s5 := (a3.cell 5).trans (enC_pp e)
            have s6 := rng_cell a3.en_pm 0 (pmC_r e.pm)
            have s7 := rng_cell a3.en_pm 1 (pmC_w e.pm)
            have s8 := rng_cell a3.en_pm 2 (pmC_x e.pm)
            have s9 := rng_cell a3.en_pm 3 (pmC_u e.pm)
            have s10 := (a3.cell 10).trans (enC_d e)
            have m0 := h6.pm.1
            have m1 := h6.pm.2.1
            have m2 := h6.pm.2.2.1
            have m3 := h6.pm.2.2.2
            have hS6 : w5.heap.size < (w5.alloc (.cells (pmC (permP X.pt)) 64)).heap.size := h6.lt
            replace HB2 := Lib.hid (HB2.out.trans ((Ext.refl w5).alloc (.cells (pmC (permP X.pt)) 64)))
            go_upto_region 9 with (refine wpList_store_new rfl 64 _ _ rfl (pmC _) _ _ rfl rfl (pm_info _) (by simp [pmC_size]) (pmC_one _) ?_)
            simp only [Act.put]
            rw [hX, hY] at hok
            generalize Y.b = yb at a5 hok
            generalize X.lv = lv at q0 hok
            generalize X.pt.pp = xp at q9 hok
            generalize X.pt.a = xa at q6 hok
            generalize X.pt.d = xd at q7 hok
            generalize (permP X.pt).r = xr at m0 hok
            generalize (permP X.pt).w = xw at m1 hok
            generalize (permP X.pt).x = xx at m2 hok
            generalize (permP X.pt).u = xu at m3 hok
            generalize e.l = el at s3 hok
            generalize e.pp = ep at s5 hok
            generalize e.pm.r = er at s6 hok
            generalize e.pm.w = ew at s7 hok
            generalize e.pm.x = ex at s8 hok
            generalize e.pm.u = eu at s9 hok
            generalize e.d = ed at s10 hok
            generalize w5.alloc (.cells (pmC (permP X.pt)) 64) = w6 at *
            clear a3 a4 h3 h4 h5 h6 hS6
            rw [show (eu != xu) = (xu != eu) from bne_comm] at hok
            go_cut [89] from 49 to 89 (fun c wx => ∃ T : Bool, c = .bool T ∧ wx = w6 ∧ okA S K h.sp e = (!T && !(er && !xr || (ew && !xw || ex && !xx))))
            case first =>
              cases yb
              · by_cases c2 : lv = el
                · subst c2
                  by_cases c3 : xp = ep
                  · subst c3
                    cases xa
                    · skip
                      go_wp2
                      go_meet
                      case rel => exact ⟨true, rfl, rfl, by rw [hok]; simp⟩
                    · cases ed
                      · skip
                        go_wp2
                        go_meet
                        case rel => exact ⟨_, rfl, rfl, by rw [hok]; exact ok_pure (by simp) (by simp) _ _ _ _ _ _ _ (by rfl)⟩
                      · cases xd
                        · skip
                          go_wp2
                          go_meet
                          case rel => exact ⟨true, rfl, rfl, by rw [hok]; simp⟩
                        · skip
                          go_wp2
                          go_meet
                          case rel => exact ⟨_, rfl, rfl, by rw [hok]; exact ok_pure (by simp) (by simp) _ _ _ _ _ _ _ (by rfl)⟩
                  · have d3 : ((xp : Int) != (ep : Int)) = true := by simp; omega
                    go_wp2
                    go_meet
                    case rel => exact ⟨true, rfl, rfl, by rw [hok]; simp [c3]⟩
                · have d2 : (lv != el) = true := by simp [c2]
                  go_wp2
                  go_meet
                  case rel => exact ⟨true, rfl, rfl, by rw [hok]; simp [c2]⟩
              · skip
                go_wp2
                go_meet
                case rel => exact ⟨true, rfl, rfl, by rw [hok]; simp⟩
            case rest =>
              obtain ⟨T, rfl, rfl, hok2⟩ := hcut
              clear hok a5 q0 q9 q6 q7 s3 s5 s10 m3 s9
              cases T
              case true =>
                go_wp2
                go_ret
                exact ⟨by rw [N1.out (by rw [hok2]; rfl)] <;> rfl, HE.out.trans HB2.out⟩
              cases er
              · skip
                cases ew
                · skip
                  cases ex
                  · skip
                    go_wp2
                    go_roundw
                    case rel => exact ⟨k + 1, by omega, by go_num, Lib.hid (I1.out (by rw [hok2]; rfl)), HB2.out⟩
                    case measure => simp [intOf]; omega
                  · cases xx
                    · skip
                      go_wp2
                      
                      go_ret
                      exact ⟨by rw [N1.out (by rw [hok2]; rfl)] <;> rfl, HE.out.trans HB2.out⟩
                    · skip
                      go_wp2
                      go_roundw
                      case rel => exact ⟨k + 1, by omega, by go_num, Lib.hid (I1.out (by rw [hok2]; rfl)), HB2.out⟩
                      case measure => simp [intOf]; omega
                · cases xw
                  · skip
                    go_wp2
                    
                    go_ret
                    exact ⟨by rw [N1.out (by rw [hok2]; rfl)] <;> rfl, HE.out.trans HB2.out⟩
                  · skip
                    cases ex
                    · skip
                      go_wp2
                      go_roundw
                      case rel => exact ⟨k + 1, by omega, by go_num, Lib.hid (I1.out (by rw [hok2]; rfl)), HB2.out⟩
                      case measure => simp [intOf]; omega
                    · cases xx
                      · skip
                        go_wp2
                        
                        go_ret
                        exact ⟨by rw [N1.out (by rw [hok2]; rfl)] <;> rfl, HE.out.trans HB2.out⟩
                      · skip
                        go_wp2
                        go_roundw
                        case rel => exact ⟨k + 1, by omega, by go_num, Lib.hid (I1.out (by rw [hok2]; rfl)), HB2.out⟩
                        case measure => simp [intOf]; omega
              · cases xr
                · skip
                  go_wp2
                  
                  go_ret
                  exact ⟨by rw [N1.out (by rw [hok2]; rfl)] <;> rfl, HE.out.trans HB2.out⟩
                · skip
                  cases ew
                  · skip
                    cases ex
                    · skip
                      go_wp2
                      go_roundw
                      case rel => exact ⟨k + 1, by omega, by go_num, Lib.hid (I1.out (by rw [hok2]; rfl)), HB2.out⟩
                      case measure => simp [intOf]; omega
                    · cases xx
                      · skip
                        go_wp2
                        
                        go_ret
                        exact ⟨by rw [N1.out (by rw [hok2]; rfl)] <;> rfl, HE.out.trans HB2.out⟩
                      · skip
                        go_wp2
                        go_roundw
                        case rel => exact ⟨k + 1, by omega, by go_num, Lib.hid (I1.out (by rw [hok2]; rfl)), HB2.out⟩
                        case measure => simp [intOf]; omega
                  · cases xw
                    · skip
                      go_wp2
                      
                      go_ret
                      exact ⟨by rw [N1.out (by rw [hok2]; rfl)] <;> rfl, HE.out.trans HB2.out⟩
                    · skip
                      cases ex
                      · skip
                        go_wp2
                        go_roundw
                        case rel => exact ⟨k + 1, by omega, by go_num, Lib.hid (I1.out (by rw [hok2]; rfl)), HB2.out⟩
                        case measure => simp [intOf]; omega
                      · cases xx
                        · skip
                          go_wp2
                          
                          go_ret
                          exact ⟨by rw [N1.out (by rw [hok2]; rfl)] <;> rfl, HE.out.trans HB2.out⟩
                        · skip
                          go_wp2
                          go_roundw
                          case rel => exact ⟨k + 1, by omega, by go_num, Lib.hid (I1.out (by rw [hok2]; rfl)), HB2.out⟩
                          case measure => simp [intOf]; omega
        · have hn2 : ((e.n : Int) != (h.sp.ai : Int)) = true := by simp; omega
          have hok3 : okA S K h.sp e = true := by unfold okA mineE; rw [hg]; simp [hn]
          go_wp2_with (first | (refine wpList_load_rng (w := wr) (by rfl) 66 _ rfl rfl e2 Tryz.underlying66 rfl (en_info _) ?_) | (refine wpList_store_new rfl 66 _ _ rfl (enC _) _ _ rfl rfl (en_info _) (by simp [enC_size]) (enC_one _) ?_))
          go_roundw
          case rel => exact ⟨k + 1, by omega, by go_num, Lib.hid (I1.out hok3), HB.out.trans ((Ext.refl wr).alloc _)⟩
          case measure => simp [intOf]; omega
      · have hok := ok_form S K h.sp e (by unfold mineE; rw [hg]; simp)
        rw [hg] at x2
        go_wp2_with (first | (refine wpList_load_rng (w := wr) (by rfl) 66 _ rfl rfl e2 Tryz.underlying66 rfl (en_info _) ?_) | (refine wpList_store_new rfl 66 _ _ rfl (enC _) _ _ rfl rfl (en_info _) (by simp [enC_size]) (enC_one _) ?_))
        replace h1 := h1.alloc (.cells (enC e) 66)
        replace h2 := h2.alloc (.cells (enC e) 66)
        have HB2 := Lib.hid (HB.out.trans ((Ext.refl wr).alloc (.cells (enC e) 66)))
        clear x1 x2 x4 y2 e2
        generalize wr.alloc (.cells (enC e) 66) = W1 at *
        have hgW : wr.heap.size < W1.heap.size := h3.lt
        replace h1 := Blk.drew h1
        replace h2 := Blk.drew h2
        replace h3 := Blk.drew h3
        refine wp_region_puts (X := (Nat → Nat) × Unit) (fun x => [(some 36, .agg #[.int .u64 (S : Int), .slice B K.length d]), (some 37, .pointer (some ⟨w.heap.size, 1, none⟩)), (some 38, .pointer (some ⟨w.heap.size, 3, none⟩)), (some 39, .int .u64 (h.sp.pp : Int)), (some 40, .pointer (some ⟨wr.heap.size, 4, none⟩)), (some 41, .int .u64 (e.vp : Int)), (some 42, .int .u64 (fstN e : Int)), (some 43, .tuple #[.agg (lfC X), .agg (ftC Y)]), (some 35, .tuple #[.agg (lfC X), .agg (ftC Y)]), (some 44, .agg (lfC X)), (some 45, .agg (ftC Y)), (some 8, .pointer (some ⟨x.1 0, 0, none⟩)), (some 9, .pointer (some ⟨x.1 1, 0, none⟩)), (none, undef), (none, undef)]) (FB W1.drew 7 (fun _ _ => True) (fun _ _ => True) [⟨11, 13, 75, #[.int .i64 0, .int .u64 0, .bool false, .bool false, .bool false, .bool false, .bool false, .bool false, .bool false, .bool false, .int .u64 0, .int .u64 0, .int .u64 0], fun _ => lfC X⟩, ⟨12, 14, 54, #[.bool false, .int .i64 0, .int .u64 0], fun _ => ftC Y⟩]) (by kernel_rfl) (by kernel_rfl) (fun _ => 0, ()) (FB.start fun _ => not_yet) ?_ ?_
        · intro x bs wz q o hlen hk hbk hafter hF
          have hq15 : q < 15 := by have := (List.getElem?_eq_some_iff.1 hk).1; simpa using this
          have hq : q = 0 ∨ q = 1 ∨ q = 2 ∨ q = 3 ∨ q = 4 ∨ q = 5 ∨ q = 6 ∨ q = 7 ∨ q = 8 ∨ q = 9 ∨ q = 10 ∨ q = 11 ∨ q = 12 ∨ q = 13 ∨ q = 14 := by omega
          clear hq15
          rcases hq with rfl | rfl | rfl | rfl | rfl | rfl | rfl | rfl | rfl | rfl | rfl | rfl | rfl | rfl | rfl
          · obtain rfl := Option.some.inj hk
            refine op_load (g := w.heap.size + 1) rfl ((eval_out (by rfl)).trans rfl) (h2.ext hF.e) rfl Tryz.underlying32 (by kernel_rfl) (next_at x rfl (by kernel_rfl) hbk rfl (fun _ _ => rfl) (hF.read (by decide) (two_boxes (p := fun _ b => _ ≠ b.al ∧ _ ≠ b.st) (by simp) (by simp))))
          · obtain rfl := Option.some.inj hk
            refine op_read (x := .tmp 2) _ ((eval_out (by rfl)).trans rfl) (fun E he => by simp [go_sem, execOp, he]) (next_at x rfl (by kernel_rfl) hbk rfl (fun _ _ => rfl) (hF.read (by decide) (two_boxes (p := fun _ b => _ ≠ b.al ∧ _ ≠ b.st) (by simp) (by simp))))
          · obtain rfl := Option.some.inj hk
            refine op_read (x := .tmp 37) _ (eval_at (i := 1) (by kernel_rfl) rfl (hafter ⟨1, .data⟩ (by simp) rfl) (Nat.le_of_ble_eq_true rfl)) (fun E he => by simp [go_sem, execOp, he]) (next_at x rfl (by kernel_rfl) hbk rfl (fun _ _ => rfl) (hF.read (by decide) (two_boxes (p := fun _ b => _ ≠ b.al ∧ _ ≠ b.st) (by simp) (by simp))))
          · obtain rfl := Option.some.inj hk
            have hc := (h1.ext hF.e).hr.pp
            refine op_read (x := .tmp 38) _ (eval_at (i := 2) (by kernel_rfl) rfl (hafter ⟨2, .data⟩ (by simp) rfl) (Nat.le_of_ble_eq_true rfl)) (fun E he => by simp [go_sem, execOp, he, hc]) (next_at x rfl (by kernel_rfl) hbk rfl (fun _ _ => rfl) (hF.read (by decide) (two_boxes (p := fun _ b => _ ≠ b.al ∧ _ ≠ b.st) (by simp) (by simp))))
          · obtain rfl := Option.some.inj hk
            refine op_read (x := .tmp 7) _ ((eval_out (by rfl)).trans rfl) (fun E he => by simp [go_sem, execOp, he]) (next_at x rfl (by kernel_rfl) hbk rfl (fun _ _ => rfl) (hF.read (by decide) (two_boxes (p := fun _ b => _ ≠ b.al ∧ _ ≠ b.st) (by simp) (by simp))))
          · obtain rfl := Option.some.inj hk
            have hc := ((h3.ext hF.e).cell 4).trans (enC_vp e)
            refine op_read (x := .tmp 40) _ (eval_at (i := 4) (by kernel_rfl) rfl (hafter ⟨4, .data⟩ (by simp) rfl) (Nat.le_of_ble_eq_true rfl)) (fun E he => by simp [go_sem, execOp, he, hc]) (next_at x rfl (by kernel_rfl) hbk rfl (fun _ _ => rfl) (hF.read (by decide) (two_boxes (p := fun _ b => _ ≠ b.al ∧ _ ≠ b.st) (by simp) (by simp))))
          · obtain rfl := Option.some.inj hk
            refine op_call (cof wz) rfl Tryz.func37 rfl rfl (args1 (eval_at (i := 5) (by kernel_rfl) rfl (hafter ⟨5, .data⟩ (by simp) rfl) (Nat.le_of_ble_eq_true rfl))) ?_
            rintro r w2 ⟨rfl, hE⟩
            exact ⟨_, rfl, (next_at x rfl (by kernel_rfl) hbk rfl (fun _ _ => rfl) ((hF.read (by decide) (two_boxes (p := fun _ b => _ ≠ b.al ∧ _ ≠ b.st) (by simp) (by simp))).ext hE fun _ _ => trivial))⟩
          · obtain rfl := Option.some.inj hk
            refine op_call (clk wz ((hMx _ (HB2.out.drew)).ext hF.e)) rfl Tryz.func30 rfl rfl (args4 (eval_at (i := 0) (by kernel_rfl) rfl (hafter ⟨0, .data⟩ (by simp) rfl) (Nat.le_of_ble_eq_true rfl)) (eval_at (i := 3) (by kernel_rfl) rfl (hafter ⟨3, .data⟩ (by simp) rfl) (Nat.le_of_ble_eq_true rfl)) (eval_at (i := 6) (by kernel_rfl) rfl (hafter ⟨6, .data⟩ (by simp) rfl) (Nat.le_of_ble_eq_true rfl)) rfl) ?_
            rintro r w2 ⟨rfl, hE⟩
            exact ⟨_, rfl, (next_at x rfl (by kernel_rfl) hbk rfl (fun _ _ => rfl) (hF.tell hbk hE trivial (fun _ _ _ => trivial) (two_boxes (p := fun _ b => b.al ≠ _ ∧ b.st ≠ _) (by simp) (by simp))))⟩
          · obtain rfl := Option.some.inj hk
            refine op_read (x := .tmp 43) _ (eval_at (i := 7) (by kernel_rfl) rfl (hafter ⟨7, .data⟩ (by simp) rfl) (Nat.le_of_ble_eq_true rfl)) (fun E he => by simp [go_sem, execOp, he]) (next_at x rfl (by kernel_rfl) hbk rfl (fun _ _ => rfl) (hF.read (by decide) (two_boxes (p := fun _ b => _ ≠ b.al ∧ _ ≠ b.st) (by simp) (by simp))))
          · obtain rfl := Option.some.inj hk
            refine op_read (x := .tmp 35) _ (eval_at (i := 8) (by kernel_rfl) rfl (hafter ⟨8, .data⟩ (by simp) rfl) (Nat.le_of_ble_eq_true rfl)) (fun E he => by simp [go_sem, execOp, he]) (next_at x rfl (by kernel_rfl) hbk rfl (fun _ _ => rfl) (hF.read (by decide) (two_boxes (p := fun _ b => _ ≠ b.al ∧ _ ≠ b.st) (by simp) (by simp))))
          · obtain rfl := Option.some.inj hk
            refine op_read (x := .tmp 35) _ (eval_at (i := 8) (by kernel_rfl) rfl (hafter ⟨8, .data⟩ (by simp) rfl) (Nat.le_of_ble_eq_true rfl)) (fun E he => by simp [go_sem, execOp, he]) (next_at x rfl (by kernel_rfl) hbk rfl (fun _ _ => rfl) (hF.read (by decide) (two_boxes (p := fun _ b => _ ≠ b.al ∧ _ ≠ b.st) (by simp) (by simp))))
          · obtain rfl := Option.some.inj hk
            refine op_alloc #[.int .i64 0, .int .u64 0, .bool false, .bool false, .bool false, .bool false, .bool false, .bool false, .bool false, .bool false, .int .u64 0, .int .u64 0, .int .u64 0] 75 (fun E => by simp [go_sem, execOp]) ?_
            refine next_at (fun j => if j = 0 then wz.heap.size else x.1 j, x.2) rfl (by kernel_rfl) hbk rfl ?_ (hF.make (i := 0) rfl hbk (by simp) (fun _ _ => trivial) (fun _ _ => trivial) (two_boxes (p := fun j b => (b.al = _ ↔ j = _) ∧ b.st ≠ _) (by simp) (by simp)))
            intro j hj
            match j, hj with
            | 0, _ => rfl
            | 1, _ => rfl
            | 2, _ => rfl
            | 3, _ => rfl
            | 4, _ => rfl
            | 5, _ => rfl
            | 6, _ => rfl
            | 7, _ => rfl
            | 8, _ => rfl
            | 9, _ => rfl
            | 10, _ => rfl
            | 12, _ => rfl
            | 13, _ => rfl
            | 14, _ => rfl
            | 11, hj => rw [hbk] at hj; cases hj
            | n + 15, _ => rfl
          · obtain rfl := Option.some.inj hk
            refine op_alloc #[.bool false, .int .i64 0, .int .u64 0] 54 (fun E => by simp [go_sem, execOp]) ?_
            refine next_at (fun j => if j = 1 then wz.heap.size else x.1 j, x.2) rfl (by kernel_rfl) hbk rfl ?_ (hF.make (i := 1) rfl hbk (by simp) (fun _ _ => trivial) (fun _ _ => trivial) (two_boxes (p := fun j b => (b.al = _ ↔ j = _) ∧ b.st ≠ _) (by simp) (by simp)))
            intro j hj
            match j, hj with
            | 0, _ => rfl
            | 1, _ => rfl
            | 2, _ => rfl
            | 3, _ => rfl
            | 4, _ => rfl
            | 5, _ => rfl
            | 6, _ => rfl
            | 7, _ => rfl
            | 8, _ => rfl
            | 9, _ => rfl
            | 10, _ => rfl
            | 11, _ => rfl
            | 13, _ => rfl
            | 14, _ => rfl
            | 12, hj => rw [hbk] at hj; cases hj
            | n + 15, _ => rfl
          · obtain rfl := Option.some.inj hk
            have h4 := hF.b 0 _ rfl (hafter ⟨11, .data⟩ (by simp) rfl)
            rw [if_neg (by show ¬ bs[13]? = some true; rw [hbk]; decide)] at h4
            refine op_store (g := x.1 0) (cs := lfC X) rfl (eval_at (i := 11) (by kernel_rfl) rfl (hafter ⟨11, .data⟩ (by simp) rfl) (Nat.le_of_ble_eq_true rfl)) (eval_at (i := 9) (by kernel_rfl) rfl (hafter ⟨9, .data⟩ (by simp) rfl) (Nat.le_of_ble_eq_true rfl)) h4.2 (lf_info _) (by simp [lfC_size]) (lfC_one _) (next_at x rfl (by kernel_rfl) hbk rfl (fun _ _ => rfl) (hF.fill (i := 0) rfl hbk (hafter ⟨11, .data⟩ (by simp) rfl) (hafter ⟨7, .phase⟩ (by simp) rfl) (by simp) (fun _ _ _ _ _ => trivial) (two_boxes (p := fun j b => (b.st = _ ↔ j = _) ∧ b.al ≠ _) (by simp) (by simp))))
          · obtain rfl := Option.some.inj hk
            have h4 := hF.b 1 _ rfl (hafter ⟨12, .data⟩ (by simp) rfl)
            rw [if_neg (by show ¬ bs[14]? = some true; rw [hbk]; decide)] at h4
            refine op_store (g := x.1 1) (cs := ftC Y) rfl (eval_at (i := 12) (by kernel_rfl) rfl (hafter ⟨12, .data⟩ (by simp) rfl) (Nat.le_of_ble_eq_true rfl)) (eval_at (i := 10) (by kernel_rfl) rfl (hafter ⟨10, .data⟩ (by simp) rfl) (Nat.le_of_ble_eq_true rfl)) h4.2 (ft_info _) (by simp [ftC_size]) (ftC_one _) (next_at x rfl (by kernel_rfl) hbk rfl (fun _ _ => rfl) (hF.fill (i := 1) rfl hbk (hafter ⟨12, .data⟩ (by simp) rfl) (hafter ⟨7, .phase⟩ (by simp) rfl) (by simp) (fun _ _ _ _ _ => trivial) (two_boxes (p := fun j b => (b.st = _ ↔ j = _) ∧ b.al ≠ _) (by simp) (by simp))))
        · intro x wz hF
          have hE := hF.e
          obtain ⟨-, h4⟩ : _ ∧ Blk wz (x.1 0) 75 (lfC X) := hF.b 0 _ rfl rfl
          obtain ⟨-, h5⟩ : _ ∧ Blk wz (x.1 1) 54 (ftC Y) := hF.b 1 _ rfl rfl
          have h45 : x.1 0 ≠ x.1 1 := hF.n 0 1 _ _ (by decide) rfl rfl rfl rfl
          clear hF
          simp only [List.length, List.replicate, putsB, if_true]
          generalize x.1 0 = p4 at *
          generalize x.1 1 = p5 at *
          clear x
          replace h3 := h3.ext hE
          replace HB2 := Lib.hid (HB2.out.trans (Ext.of_drew hE))
          have cpm := fun w => rperm_c X.pt w
          clear hE h1 h2 cof clk hMx
          go_wp2_with (refine wpList_load_rng (by rfl) 73 _ rfl rfl h4.lf_pt Tryz.underlying73 rfl (pt_info _) ?_)
          refine (cpm _).mono ?_
          rintro r w5 ⟨rfl, hE⟩
          replace h3 := h3.ext hE
          replace h4 := h4.ext hE
          replace h5 := h5.ext hE
          replace HB2 := Lib.hid (HB2.out.trans hE)
          clear hE cpm
          have h6 := Blk.new w5 64 (pmC (permP X.pt))
          have a5 := (h5.alloc (.cells (pmC (permP X.pt)) 64)).ft.1
          have a4 := h4.alloc (.cells (pmC (permP X.pt)) 64)
          have a3 := h3.alloc (.cells (pmC (permP X.pt)) 64)
          have q0 := a4.lf_lv
          have q9 := rng_cell a4.lf_pt 9 (ptC_pp X.pt)
          have q6 := rng_cell a4.lf_pt 6 (ptC_a X.pt)
          have q7 := rng_cell a4.lf_pt 7 (ptC_d X.pt)
          have s3 := (a3.cell 3).trans (enC_l e)
          have s5 := (a3.cell 5).trans (enC_pp e)
          have s6 := rng_cell a3.en_pm 0 (pmC_r e.pm)
          have s7 := rng_cell a3.en_pm 1 (pmC_w e.pm)
          have s8 := rng_cell a3.en_pm 2 (pmC_x e.pm)
          have s9 := rng_cell a3.en_pm 3 (pmC_u e.pm)
          have s10 := (a3.cell 10).trans (enC_d e)
          have m0 := h6.pm.1
          have m1 := h6.pm.2.1
          have m2 := h6.pm.2.2.1
          have m3 := h6.pm.2.2.2
          have hS6 : w5.heap.size < (w5.alloc (.cells (pmC (permP X.pt)) 64)).heap.size := h6.lt
          replace HB2 := Lib.hid (HB2.out.trans ((Ext.refl w5).alloc (.cells (pmC (permP X.pt)) 64)))
          go_upto_region 9 with (refine wpList_store_new rfl 64 _ _ rfl (pmC _) _ _ rfl rfl (pm_info _) (by simp [pmC_size]) (pmC_one _) ?_)
          simp only [Act.put]
          rw [hX, hY] at hok
          generalize Y.b = yb at a5 hok
          generalize X.lv = lv at q0 hok
          generalize X.pt.pp = xp at q9 hok
          generalize X.pt.a = xa at q6 hok
          generalize X.pt.d = xd at q7 hok
          generalize (permP X.pt).r = xr at m0 hok
          generalize (permP X.pt).w = xw at m1 hok
          generalize (permP X.pt).x = xx at m2 hok
          generalize (permP X.pt).u = xu at m3 hok
          generalize e.l = el at s3 hok
          generalize e.pp = ep at s5 hok
          generalize e.pm.r = er at s6 hok
          generalize e.pm.w = ew at s7 hok
          generalize e.pm.x = ex at s8 hok
          generalize e.pm.u = eu at s9 hok
          generalize e.d = ed at s10 hok
          generalize w5.alloc (.cells (pmC (permP X.pt)) 64) = w6 at *
          clear a3 a4 h3 h4 h5 h6 hS6
          rw [show (eu != xu) = (xu != eu) from bne_comm] at hok
          go_cut [89] from 49 to 89 (fun c wx => ∃ T : Bool, c = .bool T ∧ wx = w6 ∧ okA S K h.sp e = (!T && !(er && !xr || (ew && !xw || ex && !xx))))
          case first =>
            cases yb
            · by_cases c2 : lv = el
              · subst c2
                by_cases c3 : xp = ep
                · subst c3
                  cases xa
                  · skip
                    go_wp2
                    go_meet
                    case rel => exact ⟨true, rfl, rfl, by rw [hok]; simp⟩
                  · cases ed
                    · skip
                      go_wp2
                      go_meet
                      case rel => exact ⟨_, rfl, rfl, by rw [hok]; exact ok_pure (by simp) (by simp) _ _ _ _ _ _ _ (by rfl)⟩
                    · cases xd
                      · skip
                        go_wp2
                        go_meet
                        case rel => exact ⟨true, rfl, rfl, by rw [hok]; simp⟩
                      · skip
                        go_wp2
                        go_meet
                        case rel => exact ⟨_, rfl, rfl, by rw [hok]; exact ok_pure (by simp) (by simp) _ _ _ _ _ _ _ (by rfl)⟩
                · have d3 : ((xp : Int) != (ep : Int)) = true := by simp; omega
                  go_wp2
                  go_meet
                  case rel => exact ⟨true, rfl, rfl, by rw [hok]; simp [c3]⟩
              · have d2 : (lv != el) = true := by simp [c2]
                go_wp2
                go_meet
                case rel => exact ⟨true, rfl, rfl, by rw [hok]; simp [c2]⟩
            · skip
              go_wp2
              go_meet
              case rel => exact ⟨true, rfl, rfl, by rw [hok]; simp⟩
          case rest =>
            obtain ⟨T, rfl, rfl, hok2⟩ := hcut
            clear hok a5 q0 q9 q6 q7 s3 s5 s10 m3 s9
            cases T
            case true =>
              go_wp2
              go_ret
              exact ⟨by rw [N1.out (by rw [hok2]; rfl)] <;> rfl, HE.out.trans HB2.out⟩
            cases er
            · skip
              cases ew
              · skip
                cases ex
                · skip
                  go_wp2
                  go_roundw
                  case rel => exact ⟨k + 1, by omega, by go_num, Lib.hid (I1.out (by rw [hok2]; rfl)), HB2.out⟩
                  case measure => simp [intOf]; omega
                · cases xx
                  · skip
                    go_wp2
                    
                    go_ret
                    exact ⟨by rw [N1.out (by rw [hok2]; rfl)] <;> rfl, HE.out.trans HB2.out⟩
                  · skip
                    go_wp2
                    go_roundw
                    case rel => exact ⟨k + 1, by omega, by go_num, Lib.hid (I1.out (by rw [hok2]; rfl)), HB2.out⟩
                    case measure => simp [intOf]; omega
              · cases xw
                · skip
                  go_wp2
                  
                  go_ret
                  exact ⟨by rw [N1.out (by rw [hok2]; rfl)] <;> rfl, HE.out.trans HB2.out⟩
                · skip
                  cases ex
                  · skip
                    go_wp2
                    go_roundw
                    case rel => exact ⟨k + 1, by omega, by go_num, Lib.hid (I1.out (by rw [hok2]; rfl)), HB2.out⟩
                    case measure => simp [intOf]; omega
                  · cases xx
                    · skip
                      go_wp2
                      
                      go_ret
                      exact ⟨by rw [N1.out (by rw [hok2]; rfl)] <;> rfl, HE.out.trans HB2.out⟩
                    · skip
                      go_wp2
                      go_roundw
                      case rel => exact ⟨k + 1, by omega, by go_num, Lib.hid (I1.out (by rw [hok2]; rfl)), HB2.out⟩
                      case measure => simp [intOf]; omega
            · cases xr
              · skip
                go_wp2
                
                go_ret
                exact ⟨by rw [N1.out (by rw [hok2]; rfl)] <;> rfl, HE.out.trans HB2.out⟩
              · skip
                cases ew
                · skip
                  cases ex
                  · skip
                    go_wp2
                    go_roundw
                    case rel => exact ⟨k + 1, by omega, by go_num, Lib.hid (I1.out (by rw [hok2]; rfl)), HB2.out⟩
                    case measure => simp [intOf]; omega
                  · cases xx
                    · skip
                      go_wp2
                      
                      go_ret
                      exact ⟨by rw [N1.out (by rw [hok2]; rfl)] <;> rfl, HE.out.trans HB2.out⟩
                    · skip
                      go_wp2
                      go_roundw
                      case rel => exact ⟨k + 1, by omega, by go_num, Lib.hid (I1.out (by rw [hok2]; rfl)), HB2.out⟩
                      case measure => simp [intOf]; omega
                · cases xw
                  · skip
                    go_wp2
                    
                    go_ret
                    exact ⟨by rw [N1.out (by rw [hok2]; rfl)] <;> rfl, HE.out.trans HB2.out⟩
                  · skip
                    cases ex
                    · skip
                      go_wp2
                      go_roundw
                      case rel => exact ⟨k + 1, by omega, by go_num, Lib.hid (I1.out (by rw [hok2]; rfl)), HB2.out⟩
                      case measure => simp [intOf]; omega
                    · cases xx
                      · skip
                        go_wp2
                        
                        go_ret
                        exact ⟨by rw [N1.out (by rw [hok2]; rfl)] <;> rfl, HE.out.trans HB2.out⟩
                      · skip
                        go_wp2
                        go_roundw
                        case rel => exact ⟨k + 1, by omega, by go_num, Lib.hid (I1.out (by rw [hok2]; rfl)), HB2.out⟩
                        case measure => simp [intOf]; omega
    · obtain rfl : k = M.length := by omega
      have hal := ag_all (okA S K h.sp) I.out
      clear hrx hMx I hvp hk hlt
      go_wp2
      go_ret
      exact ⟨by rw [hal] <;> rfl, HE.out.trans HB.out⟩
end Go.Proofs.YtlhoedpencmikaaGreatDoor
