/- Package pte: Leaf, Link, Perm, Make, has, narrow, May. -/
import Derived.Test.YticbjiddbjgikaaDoorGone
import Derived.Test.YticbjiddbjgikaaDoorRone
import Derived.Test.YticbjiddbjgikaaDoorGfive
import Derived.Test.YticbjiddbjgikaaDoorMsix
namespace Go.Proofs.YticbjiddbjgikaaDoor
open Go.ChangeShapes Go.WideShapes Go.ChangeAt Go.RowKit
set_option linter.unusedVariables false
set_option linter.unusedSimpArgs false

theorem leaf_c (p : Pt) (w : World) :
    Calls Tryd.prog 32 #[.agg (ptC p)] w fun e w' => e = .returned (.bool (leafB p)) ∧ Ext w w' := by
  have HE := Lib.hid ((Ext.refl w).alloc (.cells (ptC p) 32))
  rw [ptC_eq] at HE ⊢
  have H : Hid (leafB p = (p.v && (p.r || p.x))) := Lib.hid (by unfold leafB; rfl)
  cases hv : p.v <;> cases hr : p.r
  all_goals
    rw [hv, hr] at HE H
    go_enter Tryd.func32, Tryd.ntmps32
    go_wp2
    go_ret
    exact ⟨by rw [H.out]; rfl, HE.out⟩
theorem link_c (p : Pt) (w : World) :
    Calls Tryd.prog 77 #[.agg (ptC p)] w fun e w' => e = .returned (.bool (linkB p)) ∧ Ext w w' := by
  have HE := Lib.hid ((Ext.refl w).alloc (.cells (ptC p) 32))
  rw [ptC_eq] at HE ⊢
  have H : Hid (linkB p = (p.v && !p.r && !p.x)) := Lib.hid (by unfold linkB; rfl)
  cases hv : p.v <;> cases hr : p.r
  all_goals
    rw [hv, hr] at HE H
    go_enter Tryd.func77, Tryd.ntmps77
    go_wp2
    go_ret
    exact ⟨by rw [H.out]; rfl, HE.out⟩
theorem permP_eq (p : Pt) : pmC (permP p) = #[.bool p.r, .bool p.w, .bool p.x, .bool p.u] := by unfold permP; rw [pmC_def]
theorem makeP_eq (f : Nat) (m : Pm) (g : Bool) : ptC (makeP f m g) = #[.bool true, .bool m.r, .bool m.w, .bool m.x, .bool m.u, .bool g, .bool false, .bool false, .int .u64 0, .int .u64 (f : Int), .int .u64 0] := by unfold makeP; rw [ptC_def]; rfl
theorem Blk.pt {w : World} {g : Nat} {t : TypeId} {c0 c1 c2 c3 c4 c5 c6 c7 c8 c9 c10 : Value} (h : Blk w g t #[c0, c1, c2, c3, c4, c5, c6, c7, c8, c9, c10]) :
    w.cell? ⟨g, 0, none⟩ = some c0 ∧ w.cell? ⟨g, 1, none⟩ = some c1 ∧ w.cell? ⟨g, 2, none⟩ = some c2 ∧ w.cell? ⟨g, 3, none⟩ = some c3 ∧ w.cell? ⟨g, 4, none⟩ = some c4 ∧ w.cell? ⟨g, 5, none⟩ = some c5 ∧ w.cell? ⟨g, 6, none⟩ = some c6 ∧ w.cell? ⟨g, 7, none⟩ = some c7 ∧ w.cell? ⟨g, 8, none⟩ = some c8 ∧ w.cell? ⟨g, 9, none⟩ = some c9 ∧ w.cell? ⟨g, 10, none⟩ = some c10 :=
  ⟨h.cell 0, h.cell 1, h.cell 2, h.cell 3, h.cell 4, h.cell 5, h.cell 6, h.cell 7, h.cell 8, h.cell 9, h.cell 10⟩
theorem make_c (f : Nat) (m : Pm) (g : Bool) (w : World) :
    Calls Tryd.prog 62 #[.int .u64 (f : Int), .agg (pmC m), .bool g] w fun e w' => e = .returned (.agg (ptC (makeP f m g))) ∧ Ext w w' := by
  rw [pmC_eq, makeP_eq]
  go_enter Tryd.func62, Tryd.ntmps62
  go_wp2
  (try simp only [Exit.inBlock, Exit.then]); refine bodyPost_ret (results_cell_row rfl _ _ _ _ _ _ _ rfl ((blk_at (by simp))) Tryd.underlying32 rfl (by kernel_rfl)) rfl ?_
  exact ⟨rfl, ((Ext.refl w).alloc _).alloc _⟩
theorem bit_eq {x i : Int} (x0 : 0 ≤ x) (i0 : 0 ≤ i) (i1 : i < 64) : (getI x i 1 == 1) = bitB x i := by
  obtain ⟨n, rfl⟩ := Int.eq_ofNat_of_zero_le i0
  obtain ⟨m, rfl⟩ := Int.eq_ofNat_of_zero_le x0
  rw [bitB_in (by omega) (by omega), Bool.eq_iff_iff, beq_iff_eq, Int.toNat_natCast, Int.toNat_natCast, ← tb_one]
  unfold getI
  rw [Int.toNat_natCast, Int.toNat_natCast]
  show ((getN m n 1 : Nat) : Int) = 1 ↔ _
  omega
theorem has_c (x i : Int) (x0 : 0 ≤ x) (x1 : x < 18446744073709551616) (i0 : 0 ≤ i) (i1 : i < 64) (w : World) :
    Calls Tryd.prog 74 #[.int .u64 x, .int .i64 i] w fun e w' => e = .returned (.bool (bitB x i)) ∧ w = w' := by
  have H := Lib.hid (bit_eq x0 i0 i1)
  go_enter Tryd.func74, Tryd.ntmps74
  go_wp2_with (go_at_call 75; refine (get_c _ _ _ (by (omega)) (by (omega)) (by omega) (by omega) (by omega) (by omega) _).mono ?_; rintro e w' ⟨rfl, rfl⟩)
  go_ret
  exact ⟨by rw [← H.out]; rfl, rfl⟩
theorem narrow_c (x n : Int) (x0 : 0 ≤ x) (x1 : x < 18446744073709551616) (n0 : 0 ≤ n) (n1 : n ≤ 64) (w : World) :
    Calls Tryd.prog 99 #[.int .u64 x, .int .i64 n] w fun e w' => e = .returned (.bool (x == getI x 0 n)) ∧ w = w' := by
  go_enter Tryd.func99, Tryd.ntmps99
  go_wp2_with (go_at_call 75; refine (get_c _ _ _ (by (omega)) (by (omega)) (by omega) (by omega) (by omega) (by omega) _).mono ?_; rintro e w' ⟨rfl, rfl⟩)
  go_ret
  exact ⟨rfl, rfl⟩
theorem narrow_eq (x n : Nat) : ((x : Int) == getI (x : Int) 0 (n : Int)) = decide (x < 2 ^ n) := by
  rw [Bool.eq_iff_iff, beq_iff_eq, decide_eq_true_iff]
  unfold getI getN
  rw [Int.toNat_natCast, Int.toNat_natCast]
  show (x : Int) = ((x % 2 ^ n : Nat) : Int) ↔ _
  have hp := Nat.two_pow_pos n
  constructor
  · intro h
    have h1 : x % 2 ^ n = x := by omega
    rw [← h1]; exact Nat.mod_lt _ hp
  · intro h; rw [Nat.mod_eq_of_lt h]
theorem may_c (p : Pt) (hp : p.ok) (w : World) :
    Calls Tryd.prog 82 #[.agg (ptC p)] w fun e w' => e = .returned (.bool (mayB p)) ∧ Ext w w' := by
  obtain ⟨h0, h1, h2⟩ := hp
  have HE := Lib.hid ((Ext.refl w).alloc (.cells (ptC p) 32))
  rw [ptC_eq] at HE ⊢
  have H : Hid (mayB p = (decide (p.rs < 4) && decide (p.pp < 17592186044416) && decide (p.hi < 1024))) := Lib.hid (by unfold mayB; rfl)
  have e0 : ((p.rs : Int) == getI (p.rs : Int) 0 2) = decide (p.rs < 4) := narrow_eq p.rs 2
  have e1 : ((p.pp : Int) == getI (p.pp : Int) 0 44) = decide (p.pp < 17592186044416) := narrow_eq p.pp 44
  have e2 : ((p.hi : Int) == getI (p.hi : Int) 0 10) = decide (p.hi < 1024) := narrow_eq p.hi 10
  cases h3 : decide (p.rs < 4) <;> cases h4 : decide (p.pp < 17592186044416) <;> cases h5 : decide (p.hi < 1024)
  all_goals
    rw [h3] at H e0
    rw [h4] at H e1
    rw [h5] at H e2
    clear h3 h4 h5
    go_enter Tryd.func82, Tryd.ntmps82
    go_wp2_with (go_at_call 99; refine (narrow_c _ _ (by omega) (by omega) (by omega) (by omega) _).mono ?_; rintro e w' ⟨rfl, rfl⟩)
    go_ret
    exact ⟨by rw [H.out]; rfl, HE.out⟩
end Go.Proofs.YticbjiddbjgikaaDoor
/- Package pte: Bad. -/
namespace Go.Proofs.YticbjiddbjgikaaDoor
open Go.ChangeShapes Go.WideShapes Go.ChangeAt Go.RowKit
set_option linter.unusedVariables false
set_option linter.unusedSimpArgs false

/-! Bad -/
theorem even_many {p : Nat} {l : Int} (l0 : 0 ≤ l) (l2 : l ≤ 2) : evenB (p : Int) (sizI l / 4096) = decide (p % manyN l = 0) := by
  rcases level_lt l0 l2 with rfl | rfl | rfl
  · rw [siz0]; unfold evenB manyN; rw [if_neg (by decide), Bool.eq_iff_iff, beq_iff_eq, decide_eq_true_iff]; simp; omega
  · rw [siz1]; unfold evenB manyN; rw [if_neg (by decide), Bool.eq_iff_iff, beq_iff_eq, decide_eq_true_iff]; simp; omega
  · rw [siz2]; unfold evenB manyN; rw [if_neg (by decide), Bool.eq_iff_iff, beq_iff_eq, decide_eq_true_iff]; simp; omega
theorem bad_eq (p : Pt) (l : Int) : badB p l = ((!p.v) || (p.w && !p.r) || !decide (p.hi = 0) || (if p.r || p.x then !decide (p.pp % manyN l = 0) else (l == 0) || p.a || p.d || p.u)) := by unfold badB; rfl
theorem link_eq (p : Pt) : linkB p = (p.v && !p.r && !p.x) := by unfold linkB; rfl
set_option maxRecDepth 100000 in
set_option maxHeartbeats 2000000 in
theorem bad_c (p : Pt) (hp : p.ok) (l : Int) (l0 : 0 ≤ l) (l2 : l ≤ 2) (w : World) (hT : Siz w) :
    Calls Tryd.prog 78 #[.agg (ptC p), .int .i64 l] w fun e w' => e = .returned (.bool (badB p l)) ∧ Ext w w' := by
  obtain ⟨ok0, ok1, ok2⟩ := hp
  have HE := Lib.hid ((Ext.refl w).alloc (.cells (ptC p) 32))
  have HT := Lib.hid (hT.ext HE.out)
  have H := Lib.hid (bad_eq p l)
  have hlink := link_c p
  have hl := link_eq p
  have hs := siz_lt l0 l2
  have hev := even_c (p.pp : Int) (sizI l / 4096) (by omega) (by omega) (by omega) (by omega)
  rw [even_many l0 l2] at hev
  clear hT
  rw [ptC_eq] at HE HT hlink ⊢
  cases hv : p.v
  case false =>
    rw [hv] at HE H
    clear hlink hl hev hs
    go_enter Tryd.func78, Tryd.ntmps78
    go_wp2
    go_ret
    exact ⟨by rw [H.out]; rfl, HE.out⟩
  cases hw : p.w <;> cases hr : p.r <;> cases hh : decide (p.hi = 0)
  all_goals
    have hh2 : ((p.hi : Int) == 0) = decide (p.hi = 0) := by rw [Bool.eq_iff_iff, beq_iff_eq, decide_eq_true_iff]; omega
    rw [hh] at hh2 H
    rw [hv, hw, hr] at HE HT H hlink
    rw [hv, hr] at hl
    try
      clear hlink hl hev hs
      go_enter Tryd.func78, Tryd.ntmps78
      go_wp2
      go_ret
      exact ⟨by rw [H.out]; rfl, HE.out⟩
  · rw [hl] at hlink
    cases hx : p.x
    · rw [hx] at HE HT H hlink
      clear hl hev hs
      cases h0 : (l == 0) <;> cases ha : p.a <;> cases hd : p.d
      all_goals
        rw [h0, ha, hd] at H
        rw [ha, hd] at HE hlink
        go_enter Tryd.func78, Tryd.ntmps78
        go_wp2_with fail; refine (hlink _).mono ?_; rintro e w1 ⟨rfl, hE⟩; replace HE := Lib.hid (HE.out.trans hE)
        obtain ⟨b0, b1, b2, b3, b4, b5, b6, b7, b8, b9, b10⟩ := (blk_one hE).pt
        clear hE hlink
        go_wp2
        go_ret
        exact ⟨by rw [H.out]; rfl, HE.out⟩
    · rw [hx] at HE HT H hlink
      clear hl
      go_enter Tryd.func78, Tryd.ntmps78
      go_wp2_with fail; refine (hlink _).mono ?_; rintro e w1 ⟨rfl, hE⟩; replace HE := Lib.hid (HE.out.trans hE)
      replace HT := Lib.hid (HT.out.ext hE)
      obtain ⟨-, -, -, -, -, -, -, -, -, b9, -⟩ := (blk_one hE).pt
      clear hE hlink
      go_wp2
      refine wp_region_seq [(0, false), (1, false), (2, false), (3, true), (4, false), (5, true), (6, false), (7, false)] Ext (by kernel_rfl) (by kernel_rfl) Ext.refl (fun _ _ _ => Ext.trans) ?_; simp only [List.map, nth_z, nth_s]
      (repeat ((refine seq_read (by rfl) (by rfl) ?_; intro K hK; go_big_quiet_op; (refine ⟨_, fun _ _ => rfl, ?_⟩; go_big_quiet_on))))
      refine seq_value (.int .u64 (p.pp : Int)) (by rfl) (fun x hx => by have hq := ext_cell hx (b9); simp [go_sem, execOp, Act.eval, hq]) ?_; intro K hK; simp only [Act.put, List.setIfInBounds_toArray, List.set_cons_zero, List.set_cons_succ]; refine hK _ ?_; clear hK K
      (repeat ((refine seq_read (by rfl) (by rfl) ?_; intro K hK; go_big_quiet_op; (go_big_quiet_on))))
      refine seq_call (size5_c l l0 l2 _ (HT.out.ext (Ext.refl _).drew)) rfl Tryd.func34 (by kernel_rfl) (by kernel_rfl) (by rfl) (by rfl) ?_; intro K hK; rintro e w' ⟨rfl, rfl⟩; refine ⟨_, rfl, Ext.refl _, ?_⟩; simp only [Act.put, List.setIfInBounds_toArray, List.set_cons_zero, List.set_cons_succ]; refine hK _ _ ?_; clear hK K
      (repeat ((refine seq_read (by rfl) (by rfl) ?_; intro K hK; go_big_quiet_op; (refine ⟨_, fun _ _ => rfl, ?_⟩; go_big_quiet_on))))
      refine seq_call (hev _) rfl Tryd.func95 (by kernel_rfl) (by kernel_rfl) (by rfl) (by rfl) ?_; intro K hK; rintro e w' ⟨rfl, rfl⟩; refine ⟨_, rfl, Ext.refl _, ?_⟩; simp only [Act.put, List.setIfInBounds_toArray, List.set_cons_zero, List.set_cons_succ]; refine hK _ _ ?_; clear hK K
      (repeat ((refine seq_read (by rfl) (by rfl) ?_; intro K hK; go_big_quiet_op; first | go_big_quiet_on | (refine ⟨_, fun _ _ => rfl, ?_⟩; go_big_quiet_on))))
      refine seq_done ?_
      clear hev
      go_wp2
      go_ret
      exact ⟨by rw [H.out]; rfl, HE.out.drew⟩
  all_goals
    simp only [Bool.not_true, Bool.and_false, Bool.false_and] at hl
    rw [hl] at hlink
    clear hl
    go_enter Tryd.func78, Tryd.ntmps78
    go_wp2_with fail; refine (hlink _).mono ?_; rintro e w1 ⟨rfl, hE⟩; replace HE := Lib.hid (HE.out.trans hE)
    replace HT := Lib.hid (HT.out.ext hE)
    obtain ⟨-, -, -, -, -, -, -, -, -, b9, -⟩ := (blk_one hE).pt
    clear hE hlink
    go_wp2
    refine wp_region_seq [(0, false), (1, false), (2, false), (3, true), (4, false), (5, true), (6, false), (7, false)] Ext (by kernel_rfl) (by kernel_rfl) Ext.refl (fun _ _ _ => Ext.trans) ?_; simp only [List.map, nth_z, nth_s]
    (repeat ((refine seq_read (by rfl) (by rfl) ?_; intro K hK; go_big_quiet_op; (refine ⟨_, fun _ _ => rfl, ?_⟩; go_big_quiet_on))))
    refine seq_value (.int .u64 (p.pp : Int)) (by rfl) (fun x hx => by have hq := ext_cell hx (b9); simp [go_sem, execOp, Act.eval, hq]) ?_; intro K hK; simp only [Act.put, List.setIfInBounds_toArray, List.set_cons_zero, List.set_cons_succ]; refine hK _ ?_; clear hK K
    (repeat ((refine seq_read (by rfl) (by rfl) ?_; intro K hK; go_big_quiet_op; (go_big_quiet_on))))
    refine seq_call (size5_c l l0 l2 _ (HT.out.ext (Ext.refl _).drew)) rfl Tryd.func34 (by kernel_rfl) (by kernel_rfl) (by rfl) (by rfl) ?_; intro K hK; rintro e w' ⟨rfl, rfl⟩; refine ⟨_, rfl, Ext.refl _, ?_⟩; simp only [Act.put, List.setIfInBounds_toArray, List.set_cons_zero, List.set_cons_succ]; refine hK _ _ ?_; clear hK K
    (repeat ((refine seq_read (by rfl) (by rfl) ?_; intro K hK; go_big_quiet_op; (refine ⟨_, fun _ _ => rfl, ?_⟩; go_big_quiet_on))))
    refine seq_call (hev _) rfl Tryd.func95 (by kernel_rfl) (by kernel_rfl) (by rfl) (by rfl) ?_; intro K hK; rintro e w' ⟨rfl, rfl⟩; refine ⟨_, rfl, Ext.refl _, ?_⟩; simp only [Act.put, List.setIfInBounds_toArray, List.set_cons_zero, List.set_cons_succ]; refine hK _ _ ?_; clear hK K
    (repeat ((refine seq_read (by rfl) (by rfl) ?_; intro K hK; go_big_quiet_op; first | go_big_quiet_on | (refine ⟨_, fun _ _ => rfl, ?_⟩; go_big_quiet_on))))
    refine seq_done ?_
    clear hev
    go_wp2
    go_ret
    exact ⟨by rw [H.out]; rfl, HE.out.drew⟩
end Go.Proofs.YticbjiddbjgikaaDoor
/- Package pte: Get, set, Put, Bad. -/
namespace Go.Proofs.YticbjiddbjgikaaDoor
open Go.ChangeShapes Go.WideShapes Go.ChangeAt Go.RowKit
set_option linter.unusedVariables false
set_option linter.unusedSimpArgs false

theorem tb_bit (x : Nat) {i : Nat} (h : i < 64) : bitB (x : Int) (i : Int) = x.testBit i := by rw [bitB_in (by omega) (by omega)]; rfl
theorem getI_nat (x lo n : Nat) : getI (x : Int) (lo : Int) (n : Int) = ((getN x lo n : Nat) : Int) := by unfold getI; rfl
theorem getP_eq {x : Nat} (hx : x < 18446744073709551616) : ptC (getP x) = #[.bool (bitB x 0), .bool (bitB x 1), .bool (bitB x 2), .bool (bitB x 3), .bool (bitB x 4), .bool (bitB x 5), .bool (bitB x 6), .bool (bitB x 7), .int .u64 (getI x 8 2), .int .u64 (getI x 10 44), .int .u64 (getI x 54 10)] := by
  have e0 : bitB (x : Int) 0 = x.testBit 0 := tb_bit x (i := 0) (by decide)
  have e1 : bitB (x : Int) 1 = x.testBit 1 := tb_bit x (i := 1) (by decide)
  have e2 : bitB (x : Int) 2 = x.testBit 2 := tb_bit x (i := 2) (by decide)
  have e3 : bitB (x : Int) 3 = x.testBit 3 := tb_bit x (i := 3) (by decide)
  have e4 : bitB (x : Int) 4 = x.testBit 4 := tb_bit x (i := 4) (by decide)
  have e5 : bitB (x : Int) 5 = x.testBit 5 := tb_bit x (i := 5) (by decide)
  have e6 : bitB (x : Int) 6 = x.testBit 6 := tb_bit x (i := 6) (by decide)
  have e7 : bitB (x : Int) 7 = x.testBit 7 := tb_bit x (i := 7) (by decide)
  have g0 : getI (x : Int) 8 2 = ((x / 256 % 4 : Nat) : Int) := (getI_nat x 8 2).trans (by rw [get8])
  have g1 : getI (x : Int) 10 44 = ((x / 1024 % 17592186044416 : Nat) : Int) := (getI_nat x 10 44).trans (by rw [get10])
  have g2 : getI (x : Int) 54 10 = ((x / 18014398509481984 : Nat) : Int) := (getI_nat x 54 10).trans (by rw [get54 hx])
  rw [e0, e1, e2, e3, e4, e5, e6, e7, g0, g1, g2]
  unfold getP; rw [ptC_def]
theorem get_pte (x : Nat) (hx : x < 18446744073709551616) (w : World) :
    Calls Tryd.prog 56 #[.int .u64 (x : Int)] w fun e w' => e = .returned (.agg (ptC (getP x))) ∧ Ext w w' := by
  rw [getP_eq hx]
  go_enter Tryd.func56, Tryd.ntmps56
  go_wp2_with first | (go_at_call 74; refine (has_c _ _ (by omega) (by omega) (by omega) (by omega) _).mono ?_; rintro e w' ⟨rfl, rfl⟩) | (go_at_call 75; refine (get_c _ _ _ (by (omega)) (by (omega)) (by omega) (by omega) (by omega) (by omega) _).mono ?_; rintro e w' ⟨rfl, rfl⟩)
  refine bodyPost_ret (results_cell_row rfl _ _ _ _ _ _ _ rfl ((blk_at (by simp))) Tryd.underlying32 rfl (by kernel_rfl)) rfl ?_
  exact ⟨rfl, (Ext.refl w).alloc _⟩

/-- the row of eight bits, each beside its place -/
def flC (f : Nat → Bool) : Array Value := #[.int .i64 0, .bool (f 0), .int .i64 1, .bool (f 1), .int .i64 2, .bool (f 2), .int .i64 3, .bool (f 3), .int .i64 4, .bool (f 4), .int .i64 5, .bool (f 5), .int .i64 6, .bool (f 6), .int .i64 7, .bool (f 7)]
theorem flC_at (f : Nat → Bool) {k : Nat} (h : k < 8) : (flC f)[k * 2]? = some (.int .i64 (k : Int)) ∧ (flC f)[k * 2 + 1]? = some (.bool (f k)) := by
  match k, h with
  | 0, _ | 1, _ | 2, _ | 3, _ | 4, _ | 5, _ | 6, _ | 7, _ => exact ⟨rfl, rfl⟩
theorem setI_one (f : Nat → Bool) {k : Nat} (h : k < 8) : setI ((bsum f k : Nat) : Int) (k : Int) 1 (if f k then 1 else 0) = ((bsum f (k + 1) : Nat) : Int) := by
  rw [← set_one f (by omega)]
  unfold setI
  rw [Int.toNat_natCast, Int.toNat_natCast]
  cases f k <;> rfl
set_option maxRecDepth 100000 in
set_option maxHeartbeats 1000000 in
theorem set8_c (f : Nat → Bool) (g : Nat) (w : World) (hb : Blk w g 110 (flC f)) :
    Calls Tryd.prog 83 #[.int .u64 0, .slice (some ⟨g, 0, none⟩) 8 8] w fun e w' => e = .returned (.int .u64 ((bsum f 8 : Nat) : Int)) ∧ Ext w w' := by
  go_enter Tryd.func83, Tryd.ntmps83
  go_wp2
  go_loopw [0, 9] (fun a b w' => ∃ k : Nat, k ≤ 8 ∧ b = .int .i64 k ∧ a = .int .u64 ((bsum f k : Nat) : Int) ∧ Ext w w') (fun _ b _ => 8 - (intOf b).toNat)
  case atStart => exact ⟨0, by omega, rfl, by unfold bsum; rfl, Ext.refl w⟩
  case round =>
    obtain ⟨k, hk, rfl, rfl, hE⟩ := hrel
    by_cases hlt : k < 8
    · have hbr := hb.ext hE
      have hc0 := (hbr.cell (k * 2)).trans (flC_at f hlt).1
      have hc1 := (hbr.cell (k * 2 + 1)).trans (flC_at f hlt).2
      have hz := bsum_lt f k
      have hz2 : 2 ^ k ≤ 2 ^ 8 := Nat.pow_le_pow_right (by decide) (by omega)
      have hz3 : ((bsum f k : Nat) : Int) < 18446744073709551616 := by omega
      have hset : ∀ w, Calls Tryd.prog 84 #[.int .u64 ((bsum f k : Nat) : Int), .int .i64 (k : Int), .int .i64 1, .int .u64 (if f k then 1 else 0)] w fun e w' => e = .returned (.int .u64 ((bsum f (k + 1) : Nat) : Int)) ∧ w = w' := fun w => by
        have := set_c ((bsum f k : Nat) : Int) (k : Int) 1 (if f k then 1 else 0) (by omega) (by omega) (by split <;> decide) (by split <;> decide) (by omega) (by omega) (by omega) (by omega) w
        rwa [setI_one f hlt] at this
      obtain ⟨y, hy⟩ : ∃ y, y = bsum f (k + 1) := ⟨_, rfl⟩
      rw [← hy] at hset
      have Hy := Lib.hid hy
      have HE := Lib.hid hE
      have hd : decide ((k : Int) < 8) = true := by simp; omega
      have Hlt := Lib.hid hlt
      clear hz hz2 hz3 hbr hE hb hy
      generalize bsum f k = z at hset ⊢
      generalize f k = b at hset hc1
      go_wp2
      go_quiet (first | (go_at_call 100; exact Calls.quiet_of_same ((bool_c _ _).mono fun _ _ h => ⟨h.1, h.2.symm⟩)) | (go_at_call 84; exact Calls.quiet_of_same ((hset _).mono fun _ _ h => ⟨h.1, h.2.symm⟩)))
      clear hset
      go_wp2
      go_roundw
      case rel => exact ⟨k + 1, by have := Hlt.out; omega, by go_num, by rw [Hy.out], (HE.out.alloc _).drewN _⟩
      case measure => have := Hlt.out; simp [intOf]; omega
    · obtain rfl : k = 8 := by omega
      have HE := Lib.hid hE
      clear hE hb
      go_wp2
      go_ret
      exact ⟨rfl, HE.out⟩
end Go.Proofs.YticbjiddbjgikaaDoor
/- Package pte: Put. -/
namespace Go.Proofs.YticbjiddbjgikaaDoor
open Go.ChangeShapes Go.WideShapes Go.ChangeAt Go.RowKit
set_option linter.unusedVariables false
set_option linter.unusedSimpArgs false

theorem flC_pt (p : Pt) : flC (ptB p) = #[.int .i64 0, .bool p.v, .int .i64 1, .bool p.r, .int .i64 2, .bool p.w, .int .i64 3, .bool p.x, .int .i64 4, .bool p.u, .int .i64 5, .bool p.g, .int .i64 6, .bool p.a, .int .i64 7, .bool p.d] := rfl
theorem put_setI {p : Pt} (h : mayB p = true) : setI (setI (setI ((bsum (ptB p) 8 : Nat) : Int) 8 2 (p.rs : Int)) 10 44 (p.pp : Int)) 54 10 (p.hi : Int) = ((putN p : Nat) : Int) := by
  rw [← put_sets h]; unfold setI; rfl
set_option maxRecDepth 100000 in
set_option maxHeartbeats 1000000 in
theorem put_yes (p : Pt) (hp : p.ok) (hm : mayB p = true) (w : World) :
    Calls Tryd.prog 67 #[.agg (ptC p)] w fun e w' => e = .returned (.tuple #[.int .u64 ((putN p : Nat) : Int), .int .i64 0]) ∧ Ext w w' := by
  have hmay := may_c p hp
  rw [hm] at hmay
  obtain ⟨ok0, ok1, ok2⟩ := hp
  have H := put_setI hm
  have hS : ((bsum (ptB p) 8 : Nat) : Int) < 18446744073709551616 := by have := bsum_lt (ptB p) 8; omega
  have hset := set8_c (ptB p)
  have HF := Lib.hid (flC_pt p)
  generalize ptB p = f at *
  generalize bsum f 8 = S at *
  have k1 := set_c (S : Int) 8 2 (p.rs : Int) (by omega) (by omega) (by omega) (by omega) (by decide) (by decide) (by decide) (by decide)
  have l1 := setI_lt (w := (S : Int)) 8 2 (p.rs : Int) (by omega) (by omega)
  have g1 := setI_ge (S : Int) 8 2 (p.rs : Int)
  generalize setI (S : Int) 8 2 (p.rs : Int) = x1 at H k1 l1 g1
  have k2 := set_c x1 10 44 (p.pp : Int) g1 l1 (by omega) (by omega) (by decide) (by decide) (by decide) (by decide)
  have l2 := setI_lt (w := x1) 10 44 (p.pp : Int) g1 l1
  have g2 := setI_ge x1 10 44 (p.pp : Int)
  generalize setI x1 10 44 (p.pp : Int) = x2 at H k2 l2 g2
  have k3 := set_c x2 54 10 (p.hi : Int) g2 l2 (by omega) (by omega) (by decide) (by decide) (by decide) (by decide)
  rw [H] at k3
  clear H g1 g2 l1 l2 hS ok0 ok1 ok2
  have HE := Lib.hid ((Ext.refl w).alloc (.cells (ptC p) 32))
  rw [ptC_eq] at HE hmay ⊢
  go_enter Tryd.func67, Tryd.ntmps67
  go_wp2_with fail
  refine (hmay _).mono ?_
  rintro e w1 ⟨rfl, hE⟩
  replace HE := Lib.hid (HE.out.trans hE)
  have hb := blk_one hE
  clear hE hmay
  obtain ⟨b0, b1, b2, b3, b4, b5, b6, b7, b8, b9, b10⟩ := hb.pt
  go_wp2_with fail
  refine (hset _ _ (by rw [HF.out]; exact Blk.new _ _ _)).mono ?_
  rintro e w2 ⟨rfl, hE⟩
  replace HE := Lib.hid ((HE.out.alloc _).trans hE)
  replace hb := (hb.alloc _).ext hE
  clear hE hset HF b0 b1 b2 b3 b4 b5 b6 b7 b8 b9 b10
  obtain ⟨-, -, -, -, -, -, -, -, b8, b9, b10⟩ := hb.pt
  clear hb
  go_wp2_with fail
  refine (k1 _).mono ?_
  rintro e w3 ⟨rfl, hw3⟩
  subst hw3
  clear k1 b8
  go_wp2_with fail
  refine (k2 _).mono ?_
  rintro e w3 ⟨rfl, hw3⟩
  subst hw3
  clear k2 b9
  go_wp2_with fail
  refine (k3 _).mono ?_
  rintro e w3 ⟨rfl, hw3⟩
  subst hw3
  clear k3 b10
  go_wp2
  go_ret2
  exact ⟨rfl, HE.out⟩
end Go.Proofs.YticbjiddbjgikaaDoor
