/- Layer 17's laws: what they take of package adv; fits. -/
import Derived.Test.YtlhoedpencmikaaDoorRadv
namespace Go.Proofs.YtlhoedpencmikaaDoor
open Go.ChangeShapes Go.WideShapes Go.ChangeAt Go.RowKit
set_option linter.unusedVariables false
set_option linter.unusedSimpArgs false
set_option maxRecDepth 10000

/-- what package adv answers -/
structure AdvC : Prop where
  bring : ∀ (A : Option Addr) (h : Hr) (c S : Nat) (B : Option Addr) (M : List (Nat × Nat)) (d a k : Nat) (w : World), rightH h = true → h.ok → k < 3 → a < 18446744073709551616 → RowV KS w A h.L c → Mem w S B M d → M.length ≤ 990 → Layh w →
    Calls Tryd.prog 7 #[.agg (hrC ⟨A, c, h⟩), .agg #[.int .u64 (S : Int), .slice B M.length d], .int .u64 (a : Int), .int .i64 (k : Int)] w (BrT B S M h a w)
  evict : ∀ (A : Option Addr) (h : Hr) (c : Nat) (i v : Int) (w : World), rightH h = true → (-9223372036854775808 ≤ i ∧ i ≤ 9223372036854775807) → (-9223372036854775808 ≤ v ∧ v ≤ 9223372036854775807) → RowV KS w A h.L c → Layh w →
    Calls Tryd.prog 8 #[.agg (hrC ⟨A, c, h⟩), .int .i64 i, .int .i64 v] w (EvT h i v w)
  pick : ∀ (A : Option Addr) (h : Hr) (c : Nat) (y : Int) (w : World), (-9223372036854775808 ≤ y ∧ y ≤ 9223372036854775807) →
    Calls Tryd.prog 9 #[.agg (hrC ⟨A, c, h⟩), .int .i64 y] w fun r w' => r = .returned (.tuple #[.agg (hrC ⟨A, c, piH h y⟩), .int .i64 (piG y)]) ∧ Ext w w'
/-- what awake answers -/
def Awk17 : Prop := ∀ w, Layh w → Calls Tryd.prog 5 #[] w fun r w' => r = .returned (.bool true) ∧ Ext w w'
theorem br_ok {S : Nat} {M : List (Nat × Nat)} {h : Hr} {a : Nat} (hr : rightH h = true) (hok : h.ok) (hM : RL (S / 8) M) (ha : a < 18446744073709551616) : (brH S M h a).ok := by
  have B := br_stays hr hM ha
  obtain ⟨h1, h2, h3, -⟩ := hok
  refine ⟨by rw [B.sp]; exact h1, by rw [B.pr]; exact h2, ?_, fun i hi => rt_ok (right_split B.r).1 hi⟩
  cases hb : brB S M h a
  · rw [(br_no hb).2]; exact h3
  · rw [(br_yes hb).2.2.2]; exact ⟨by show (-9223372036854775808 : Int) ≤ -1; decide, by show (-1 : Int) ≤ 9223372036854775807; decide⟩
theorem ev_ok {h : Hr} (hr : rightH h = true) (hok : h.ok) (s w : Int) : (evH h s w).ok := by
  have B := ev_stays hr s w
  obtain ⟨h1, h2, h3, -⟩ := hok
  refine ⟨by rw [B.sp]; exact h1, by rw [B.pr]; exact h2, ?_, fun i hi => rt_ok (right_split B.r).1 hi⟩
  rw [evH_eq]
  split <;> exact h3
theorem pi_ok {h : Hr} (hr : rightH h = true) (hok : h.ok) {w : Int} (hw : -9223372036854775808 ≤ w ∧ w ≤ 9223372036854775807) : (piH h w).ok := by
  have B := pi_stays hr w
  obtain ⟨h1, h2, h3, -⟩ := hok
  refine ⟨by rw [B.sp]; exact h1, by rw [B.pr]; exact h2, ?_, fun i hi => rt_ok (right_split B.r).1 hi⟩
  rw [piH_eq]
  split
  · exact hw
  · exact h3
theorem pi_L (h : Hr) (w : Int) : (piH h w).L = h.L := by
  rw [piH_eq]
  split <;> rfl
/-- a box made and stored into -/
theorem nh1 (w : World) (H : Array Value) : Blk (w.alloc (.cells #[.slice none 0 0, .int .u64 0, .int .u64 0, .int .u64 0, .int .i64 0, .bool false, .bool false, .int .i64 0] 29)) w.heap.size 29 #[.slice none 0 0, .int .u64 0, .int .u64 0, .int .u64 0, .int .i64 0, .bool false, .bool false, .int .i64 0] ∧ Ext w ((w.alloc (.cells #[.slice none 0 0, .int .u64 0, .int .u64 0, .int .u64 0, .int .i64 0, .bool false, .bool false, .int .i64 0] 29)).setRow w.heap.size H) ∧ Blk ((w.alloc (.cells #[.slice none 0 0, .int .u64 0, .int .u64 0, .int .u64 0, .int .i64 0, .bool false, .bool false, .int .i64 0] 29)).setRow w.heap.size H) w.heap.size 29 H :=
  ⟨Blk.new _ _ _, ((Ext.refl w).alloc _).row (Nat.le_refl _) _, (Blk.new _ _ _).row _⟩
/-- two boxes made and stored into, in a row -/
theorem nh2 (w : World) (H Mc : Array Value) : Blk ((w.alloc (.cells #[.slice none 0 0, .int .u64 0, .int .u64 0, .int .u64 0, .int .i64 0, .bool false, .bool false, .int .i64 0] 29)).alloc (.cells #[.int .u64 0, .slice none 0 0] 32)) w.heap.size 29 #[.slice none 0 0, .int .u64 0, .int .u64 0, .int .u64 0, .int .i64 0, .bool false, .bool false, .int .i64 0] ∧ Blk (((w.alloc (.cells #[.slice none 0 0, .int .u64 0, .int .u64 0, .int .u64 0, .int .i64 0, .bool false, .bool false, .int .i64 0] 29)).alloc (.cells #[.int .u64 0, .slice none 0 0] 32)).setRow w.heap.size H) (w.heap.size + 1) 32 #[.int .u64 0, .slice none 0 0] ∧
    Ext w ((((w.alloc (.cells #[.slice none 0 0, .int .u64 0, .int .u64 0, .int .u64 0, .int .i64 0, .bool false, .bool false, .int .i64 0] 29)).alloc (.cells #[.int .u64 0, .slice none 0 0] 32)).setRow w.heap.size H).setRow (w.heap.size + 1) Mc) ∧ Blk ((((w.alloc (.cells #[.slice none 0 0, .int .u64 0, .int .u64 0, .int .u64 0, .int .i64 0, .bool false, .bool false, .int .i64 0] 29)).alloc (.cells #[.int .u64 0, .slice none 0 0] 32)).setRow w.heap.size H).setRow (w.heap.size + 1) Mc) w.heap.size 29 H ∧ Blk ((((w.alloc (.cells #[.slice none 0 0, .int .u64 0, .int .u64 0, .int .u64 0, .int .i64 0, .bool false, .bool false, .int .i64 0] 29)).alloc (.cells #[.int .u64 0, .slice none 0 0] 32)).setRow w.heap.size H).setRow (w.heap.size + 1) Mc) (w.heap.size + 1) 32 Mc := by
  have zz1 : Blk ((w.alloc (.cells #[.slice none 0 0, .int .u64 0, .int .u64 0, .int .u64 0, .int .i64 0, .bool false, .bool false, .int .i64 0] 29)).alloc (.cells #[.int .u64 0, .slice none 0 0] 32)) w.heap.size 29 #[.slice none 0 0, .int .u64 0, .int .u64 0, .int .u64 0, .int .i64 0, .bool false, .bool false, .int .i64 0] := (Blk.new _ _ _).alloc _
  have zz2 : Blk (((w.alloc (.cells #[.slice none 0 0, .int .u64 0, .int .u64 0, .int .u64 0, .int .i64 0, .bool false, .bool false, .int .i64 0] 29)).alloc (.cells #[.int .u64 0, .slice none 0 0] 32)).setRow w.heap.size H) (w.heap.size + 1) 32 #[.int .u64 0, .slice none 0 0] := Blk.apart (blk_at (by simp)) (by omega) _
  exact ⟨zz1, zz2, ((((Ext.refl w).alloc _).alloc _).row (Nat.le_refl _) _).row (by omega) _, (zz1.row _).apart (by omega) _, zz2.row _⟩
set_option maxHeartbeats 1000000 in
theorem fits17_c (A : Option Addr) (h : Hr) (c S : Nat) (B : Option Addr) (M : List (Nat × Nat)) (d : Nat) (hS : S < 18446744073709551616) (hM : IsCells M) (w : World) (hr : RowV KS w A h.L c) (hm : RowL w B M d) :
    Calls Tryd.prog 6 #[.agg (hrC ⟨A, c, h⟩), .agg #[.int .u64 (S : Int), .slice B M.length d]] w fun r w' => r = .returned (.bool (fitH h S M)) ∧ Ext w w' := by
  have h1 : Blk ((w.alloc (.cells (hrC ⟨A, c, h⟩) 29)).alloc (.cells #[.int .u64 (S : Int), .slice B M.length d] 32)) w.heap.size 29 (hrC ⟨A, c, h⟩) := (Blk.new w _ _).alloc _
  have h2 : Blk ((w.alloc (.cells (hrC ⟨A, c, h⟩) 29)).alloc (.cells #[.int .u64 (S : Int), .slice B M.length d] 32)) (w.heap.size + 1) 32 #[.int .u64 (S : Int), .slice B M.length d] := blk_at (by simp)
  have HE := Lib.hid (((Ext.refl w).alloc (.cells (hrC ⟨A, c, h⟩) 29)).alloc (.cells #[.int .u64 (S : Int), .slice B M.length d] 32))
  have x0 := h1.hr.s
  have hq : fitH h S M = (decide (h.L.length ≤ 16) && (rightH h && (decide (M.length ≤ 300) && decide (RightM S M)))) := by unfold fitH; rfl
  have crt := fun w k => rright16_c A h c w k
  have cfw := fun w => few_c S B M d w
  by_cases h16 : h.L.length ≤ 16
  case neg =>
    have d0 : decide ((h.L.length : Int) ≤ 16) = false := by simp; omega
    rw [show decide (h.L.length ≤ 16) = false by simp; omega] at hq
    clear h16 crt cfw
    go_enter Tryd.func6, Tryd.ntmps6
    go_wp2
    go_ret
    refine ⟨?_, HE.out⟩
    rw [hq]
    first | rfl | simp
  have d0 : decide ((h.L.length : Int) ≤ 16) = true := by simp; omega
  rw [show decide (h.L.length ≤ 16) = true by simp; omega] at hq
  generalize rightH h = R at *
  clear h16
  go_enter Tryd.func6, Tryd.ntmps6
  go_wp2_with (refine wpList_load_blk (by rfl) 29 _ rfl rfl h1 Tryd.underlying29 rfl (by kernel_rfl) ?_)
  refine (crt _ (hr.ext HE.out)).mono ?_
  rintro e w' ⟨rfl, hE⟩
  (try replace hm := hm.ext hE); (try replace h1 := h1.ext hE); (try replace h2 := h2.ext hE); (try replace h3 := h3.ext hE); (try replace hM := hM.ext hE); (try replace HE := Lib.hid (HE.out.trans hE)); (try replace r0 := r0.ext hE); (try replace r1 := r1.ext hE); (try replace r2 := r2.ext hE); (try replace r3 := r3.ext hE); (try replace r4 := r4.ext hE); (try replace r5 := r5.ext hE); (try replace r6 := r6.ext hE)
  clear hE crt x0
  cases R
  · skip
    go_wp2
    go_ret
    refine ⟨?_, HE.out⟩
    rw [hq]
    first | rfl | simp
  by_cases h3 : M.length ≤ 300
  case neg =>
    rw [show decide (M.length ≤ 300) = false by simpa using h3] at hq cfw
    go_wp2_with ((refine wpList_load_blk (by rfl) 32 _ rfl rfl h2 Tryd.underlying32 rfl (by kernel_rfl) ?_)); refine (cfw _).mono ?_; rintro e w' ⟨rfl, hE⟩; (try replace hm := hm.ext hE); (try replace h1 := h1.ext hE); (try replace h2 := h2.ext hE); (try replace h3 := h3.ext hE); (try replace hM := hM.ext hE); (try replace HE := Lib.hid (HE.out.trans hE)); (try replace r0 := r0.ext hE); (try replace r1 := r1.ext hE); (try replace r2 := r2.ext hE); (try replace r3 := r3.ext hE); (try replace r4 := r4.ext hE); (try replace r5 := r5.ext hE); (try replace r6 := r6.ext hE); clear hE
    clear cfw
    go_wp2
    go_ret
    refine ⟨?_, HE.out⟩
    rw [hq]
    first | rfl | simp
  rw [show decide (M.length ≤ 300) = true by simpa using h3] at hq cfw
  have crm := fun w k => rright_c S B M d hS hM (by omega) w k
  go_wp2_with ((refine wpList_load_blk (by rfl) 32 _ rfl rfl h2 Tryd.underlying32 rfl (by kernel_rfl) ?_)); refine (cfw _).mono ?_; rintro e w' ⟨rfl, hE⟩; (try replace hm := hm.ext hE); (try replace h1 := h1.ext hE); (try replace h2 := h2.ext hE); (try replace h3 := h3.ext hE); (try replace hM := hM.ext hE); (try replace HE := Lib.hid (HE.out.trans hE)); (try replace r0 := r0.ext hE); (try replace r1 := r1.ext hE); (try replace r2 := r2.ext hE); (try replace r3 := r3.ext hE); (try replace r4 := r4.ext hE); (try replace r5 := r5.ext hE); (try replace r6 := r6.ext hE); clear hE
  clear cfw
  go_wp2_with ((refine wpList_load_blk (by rfl) 32 _ rfl rfl h2 Tryd.underlying32 rfl (by kernel_rfl) ?_)); refine (crm _ (hm.1.ext HE.out)).mono ?_; rintro e w' ⟨rfl, hE⟩; (try replace hm := hm.ext hE); (try replace h1 := h1.ext hE); (try replace h2 := h2.ext hE); (try replace h3 := h3.ext hE); (try replace hM := hM.ext hE); (try replace HE := Lib.hid (HE.out.trans hE)); (try replace r0 := r0.ext hE); (try replace r1 := r1.ext hE); (try replace r2 := r2.ext hE); (try replace r3 := r3.ext hE); (try replace r4 := r4.ext hE); (try replace r5 := r5.ext hE); (try replace r6 := r6.ext hE); clear hE
  clear crm
  go_wp2
  go_ret
  refine ⟨?_, HE.out⟩
  rw [hq]
  first | rfl | simp
end Go.Proofs.YtlhoedpencmikaaDoor
