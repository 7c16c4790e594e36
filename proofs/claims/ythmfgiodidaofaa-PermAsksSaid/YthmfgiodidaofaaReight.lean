/- The document's answers for package perm (atlasref08). -/
import Derived.Test.YthmfgiodidaofaaCeigb
namespace Go.Proofs.Ythmfgiodidaofaa
open Go.ChangeShapes Go.WideShapes Go.ChangeAt Go.RowKit
set_option linter.unusedVariables false
set_option linter.unusedSimpArgs false

theorem nmP_cells (n : Nat) : pmC (nmP n) = #[.bool ((n : Int) % 2 == 1), .bool ((n : Int) / 2 % 2 == 1), .bool ((n : Int) / 4 % 2 == 1), .bool ((n : Int) / 8 % 2 == 1)] := by
  have e : ∀ a b : Nat, ((a : Int) / (b : Int) % 2 == 1) = decide (a / b % 2 = 1) := fun a b => by
    rw [Bool.eq_iff_iff, beq_iff_eq, decide_eq_true_iff]; omega
  have e1 : ((n : Int) % 2 == 1) = decide (n % 2 = 1) := by rw [Bool.eq_iff_iff, beq_iff_eq, decide_eq_true_iff]; omega
  unfold nmP
  rw [pmC_def, e1, ← e n 2, ← e n 4, ← e n 8]; rfl
theorem nmW_cells (n : Nat) : wyC (nmW n) = #[.int .i64 ((n : Int) % 3), .int .i64 ((n : Int) / 3 % 2), .bool ((n : Int) / 6 % 2 == 1), .bool ((n : Int) / 12 % 2 == 1)] := by
  have e : ∀ a b : Nat, ((a : Int) / (b : Int) % 2 == 1) = decide (a / b % 2 = 1) := fun a b => by
    rw [Bool.eq_iff_iff, beq_iff_eq, decide_eq_true_iff]; omega
  have e1 : ((n % 3 : Nat) : Int) = (n : Int) % 3 := by omega
  have e2 : ((n / 3 % 2 : Nat) : Int) = (n : Int) / 3 % 2 := by omega
  unfold nmW
  rw [wyC_def, e1, e2, ← e n 6, ← e n 12]; rfl
theorem number_c (n : Nat) (hn : n < 256) (w : World) :
    Calls Try.prog 16 #[.int .u8 (n : Int)] w fun e w' => e = .returned (.agg (pmC (nmP n))) ∧ Ext w w' := by
  rw [nmP_cells]
  go_enter Try.func16, Try.ntmps16
  go_wp2
  (try simp only [Exit.inBlock, Exit.then]); refine bodyPost_ret (results_cell_row rfl _ _ _ _ _ _ _ rfl ((blk_at (by simp))) Try.underlying23 rfl (by kernel_rfl)) rfl ?_
  exact ⟨rfl, (Ext.refl w).alloc _⟩
theorem way_c (n : Nat) (hn : n < 256) (w : World) :
    Calls Try.prog 17 #[.int .u8 (n : Int)] w fun e w' => e = .returned (.agg (wyC (nmW n))) ∧ Ext w w' := by
  rw [nmW_cells]
  go_enter Try.func17, Try.ntmps17
  go_wp2
  (try simp only [Exit.inBlock, Exit.then]); refine bodyPost_ret (results_cell_row rfl _ _ _ _ _ _ _ rfl ((blk_at (by simp))) Try.underlying25 rfl (by kernel_rfl)) rfl ?_
  exact ⟨rfl, (Ext.refl w).alloc _⟩
set_option maxHeartbeats 1000000 in
theorem rless8_c (p q : Pm) (w : World) :
    Calls Try.prog 13 #[.agg (pmC p), .agg (pmC q)] w fun e w' => e = .returned (.bool (pmLess p q)) ∧ Ext w w' := by
  have HE := Lib.hid (((Ext.refl w).alloc (.cells (pmC p) 23)).alloc (.cells (pmC q) 23))
  obtain ⟨r, y, x, u⟩ := p
  obtain ⟨r', y', x', u'⟩ := q
  rw [pmC_def, pmC_def] at HE ⊢
  rw [less_lit]
  cases r
  · cases r'
    · cases y
      · cases y'
        · cases x
          · cases x'
            · cases u
              · cases u'
                · go_enter Try.func13, Try.ntmps13; go_wp2; go_ret; exact ⟨by first | rfl | (simp; done) | (cases u <;> simp <;> done) | (cases u' <;> simp <;> done), HE.out⟩
                · go_enter Try.func13, Try.ntmps13; go_wp2; go_ret; exact ⟨by first | rfl | (simp; done) | (cases u <;> simp <;> done) | (cases u' <;> simp <;> done), HE.out⟩
              · go_enter Try.func13, Try.ntmps13; go_wp2; go_ret; exact ⟨by first | rfl | (simp; done) | (cases u <;> simp <;> done) | (cases u' <;> simp <;> done), HE.out⟩
            · go_enter Try.func13, Try.ntmps13; go_wp2; go_ret; exact ⟨by first | rfl | (simp; done) | (cases u <;> simp <;> done) | (cases u' <;> simp <;> done), HE.out⟩
          · cases u
            · cases u'
              · go_enter Try.func13, Try.ntmps13; go_wp2; go_ret; exact ⟨by first | rfl | (simp; done) | (cases u <;> simp <;> done) | (cases u' <;> simp <;> done), HE.out⟩
              · go_enter Try.func13, Try.ntmps13; go_wp2; go_ret; exact ⟨by first | rfl | (simp; done) | (cases u <;> simp <;> done) | (cases u' <;> simp <;> done), HE.out⟩
            · go_enter Try.func13, Try.ntmps13; go_wp2; go_ret; exact ⟨by first | rfl | (simp; done) | (cases u <;> simp <;> done) | (cases u' <;> simp <;> done), HE.out⟩
        · go_enter Try.func13, Try.ntmps13; go_wp2; go_ret; exact ⟨by first | rfl | (simp; done) | (cases u <;> simp <;> done) | (cases u' <;> simp <;> done), HE.out⟩
      · cases x
        · cases x'
          · cases u
            · cases u'
              · go_enter Try.func13, Try.ntmps13; go_wp2; go_ret; exact ⟨by first | rfl | (simp; done) | (cases u <;> simp <;> done) | (cases u' <;> simp <;> done), HE.out⟩
              · go_enter Try.func13, Try.ntmps13; go_wp2; go_ret; exact ⟨by first | rfl | (simp; done) | (cases u <;> simp <;> done) | (cases u' <;> simp <;> done), HE.out⟩
            · go_enter Try.func13, Try.ntmps13; go_wp2; go_ret; exact ⟨by first | rfl | (simp; done) | (cases u <;> simp <;> done) | (cases u' <;> simp <;> done), HE.out⟩
          · go_enter Try.func13, Try.ntmps13; go_wp2; go_ret; exact ⟨by first | rfl | (simp; done) | (cases u <;> simp <;> done) | (cases u' <;> simp <;> done), HE.out⟩
        · cases u
          · cases u'
            · go_enter Try.func13, Try.ntmps13; go_wp2; go_ret; exact ⟨by first | rfl | (simp; done) | (cases u <;> simp <;> done) | (cases u' <;> simp <;> done), HE.out⟩
            · go_enter Try.func13, Try.ntmps13; go_wp2; go_ret; exact ⟨by first | rfl | (simp; done) | (cases u <;> simp <;> done) | (cases u' <;> simp <;> done), HE.out⟩
          · go_enter Try.func13, Try.ntmps13; go_wp2; go_ret; exact ⟨by first | rfl | (simp; done) | (cases u <;> simp <;> done) | (cases u' <;> simp <;> done), HE.out⟩
    · go_enter Try.func13, Try.ntmps13; go_wp2; go_ret; exact ⟨by first | rfl | (simp; done) | (cases u <;> simp <;> done) | (cases u' <;> simp <;> done), HE.out⟩
  · cases y
    · cases y'
      · cases x
        · cases x'
          · cases u
            · cases u'
              · go_enter Try.func13, Try.ntmps13; go_wp2; go_ret; exact ⟨by first | rfl | (simp; done) | (cases u <;> simp <;> done) | (cases u' <;> simp <;> done), HE.out⟩
              · go_enter Try.func13, Try.ntmps13; go_wp2; go_ret; exact ⟨by first | rfl | (simp; done) | (cases u <;> simp <;> done) | (cases u' <;> simp <;> done), HE.out⟩
            · go_enter Try.func13, Try.ntmps13; go_wp2; go_ret; exact ⟨by first | rfl | (simp; done) | (cases u <;> simp <;> done) | (cases u' <;> simp <;> done), HE.out⟩
          · go_enter Try.func13, Try.ntmps13; go_wp2; go_ret; exact ⟨by first | rfl | (simp; done) | (cases u <;> simp <;> done) | (cases u' <;> simp <;> done), HE.out⟩
        · cases u
          · cases u'
            · go_enter Try.func13, Try.ntmps13; go_wp2; go_ret; exact ⟨by first | rfl | (simp; done) | (cases u <;> simp <;> done) | (cases u' <;> simp <;> done), HE.out⟩
            · go_enter Try.func13, Try.ntmps13; go_wp2; go_ret; exact ⟨by first | rfl | (simp; done) | (cases u <;> simp <;> done) | (cases u' <;> simp <;> done), HE.out⟩
          · go_enter Try.func13, Try.ntmps13; go_wp2; go_ret; exact ⟨by first | rfl | (simp; done) | (cases u <;> simp <;> done) | (cases u' <;> simp <;> done), HE.out⟩
      · go_enter Try.func13, Try.ntmps13; go_wp2; go_ret; exact ⟨by first | rfl | (simp; done) | (cases u <;> simp <;> done) | (cases u' <;> simp <;> done), HE.out⟩
    · cases x
      · cases x'
        · cases u
          · cases u'
            · go_enter Try.func13, Try.ntmps13; go_wp2; go_ret; exact ⟨by first | rfl | (simp; done) | (cases u <;> simp <;> done) | (cases u' <;> simp <;> done), HE.out⟩
            · go_enter Try.func13, Try.ntmps13; go_wp2; go_ret; exact ⟨by first | rfl | (simp; done) | (cases u <;> simp <;> done) | (cases u' <;> simp <;> done), HE.out⟩
          · go_enter Try.func13, Try.ntmps13; go_wp2; go_ret; exact ⟨by first | rfl | (simp; done) | (cases u <;> simp <;> done) | (cases u' <;> simp <;> done), HE.out⟩
        · go_enter Try.func13, Try.ntmps13; go_wp2; go_ret; exact ⟨by first | rfl | (simp; done) | (cases u <;> simp <;> done) | (cases u' <;> simp <;> done), HE.out⟩
      · cases u
        · cases u'
          · go_enter Try.func13, Try.ntmps13; go_wp2; go_ret; exact ⟨by first | rfl | (simp; done) | (cases u <;> simp <;> done) | (cases u' <;> simp <;> done), HE.out⟩
          · go_enter Try.func13, Try.ntmps13; go_wp2; go_ret; exact ⟨by first | rfl | (simp; done) | (cases u <;> simp <;> done) | (cases u' <;> simp <;> done), HE.out⟩
        · go_enter Try.func13, Try.ntmps13; go_wp2; go_ret; exact ⟨by first | rfl | (simp; done) | (cases u <;> simp <;> done) | (cases u' <;> simp <;> done), HE.out⟩
set_option maxHeartbeats 1000000 in
theorem ral8_c (p : Pm) (y : Wy) (hy : wyIs y = true) (w : World) :
    Calls Try.prog 15 #[.agg (pmC p), .agg (wyC y)] w fun e w' => e = .returned (.bool (pmAl p y)) ∧ Ext w w' := by
  have HE := Lib.hid (((Ext.refl w).alloc (.cells (pmC p) 23)).alloc (.cells (wyC y) 25))
  obtain ⟨hk, hv⟩ := wy_cases hy
  clear hy
  rw [al_lit]
  obtain ⟨r, y0, x, u⟩ := p
  obtain ⟨k, v, s, m⟩ := y
  simp only at hk hv
  rw [ad_lit, ask_lit]
  rw [pmC_def, wyC_def] at HE ⊢
  rcases hk with rfl | rfl | rfl
  · rcases hv with rfl | rfl <;> cases u
    · go_enter Try.func15, Try.ntmps15; go_wp2; go_ret; exact ⟨by first | rfl | (simp; done), HE.out⟩
    · go_enter Try.func15, Try.ntmps15; go_wp2; go_ret; exact ⟨by first | rfl | (simp; done), HE.out⟩
    · go_enter Try.func15, Try.ntmps15; go_wp2; go_ret; exact ⟨by first | rfl | (simp; done), HE.out⟩
    · go_enter Try.func15, Try.ntmps15; go_wp2; go_ret; exact ⟨by first | rfl | (simp; done), HE.out⟩
  · rcases hv with rfl | rfl <;> cases u
    · go_enter Try.func15, Try.ntmps15; go_wp2; go_ret; exact ⟨by first | rfl | (simp; done), HE.out⟩
    · cases r
      · cases x
        · go_enter Try.func15, Try.ntmps15; go_wp2; go_ret; exact ⟨by first | rfl | (simp; done), HE.out⟩
        · go_enter Try.func15, Try.ntmps15; go_wp2; go_ret; exact ⟨by first | rfl | (simp; done), HE.out⟩
      · go_enter Try.func15, Try.ntmps15; go_wp2; go_ret; exact ⟨by first | rfl | (simp; done), HE.out⟩
    · cases r
      · cases x
        · go_enter Try.func15, Try.ntmps15; go_wp2; go_ret; exact ⟨by first | rfl | (simp; done), HE.out⟩
        · go_enter Try.func15, Try.ntmps15; go_wp2; go_ret; exact ⟨by first | rfl | (simp; done), HE.out⟩
      · go_enter Try.func15, Try.ntmps15; go_wp2; go_ret; exact ⟨by first | rfl | (simp; done), HE.out⟩
    · cases s
      · go_enter Try.func15, Try.ntmps15; go_wp2; go_ret; exact ⟨by first | rfl | (simp; done), HE.out⟩
      · cases r
        · cases x
          · go_enter Try.func15, Try.ntmps15; go_wp2; go_ret; exact ⟨by first | rfl | (simp; done), HE.out⟩
          · go_enter Try.func15, Try.ntmps15; go_wp2; go_ret; exact ⟨by first | rfl | (simp; done), HE.out⟩
        · go_enter Try.func15, Try.ntmps15; go_wp2; go_ret; exact ⟨by first | rfl | (simp; done), HE.out⟩
  · rcases hv with rfl | rfl <;> cases u
    · go_enter Try.func15, Try.ntmps15; go_wp2; go_ret; exact ⟨by first | rfl | (simp; done), HE.out⟩
    · go_enter Try.func15, Try.ntmps15; go_wp2; go_ret; exact ⟨by first | rfl | (simp; done), HE.out⟩
    · go_enter Try.func15, Try.ntmps15; go_wp2; go_ret; exact ⟨by first | rfl | (simp; done), HE.out⟩
    · cases s
      · go_enter Try.func15, Try.ntmps15; go_wp2; go_ret; exact ⟨by first | rfl | (simp; done), HE.out⟩
      · go_enter Try.func15, Try.ntmps15; go_wp2; go_ret; exact ⟨by first | rfl | (simp; done), HE.out⟩
end Go.Proofs.Ythmfgiodidaofaa
