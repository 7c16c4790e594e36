/- Layer 17: what Bring, Evict and Pick answer, as predicates on a call's end. -/
import Derived.Test.YtlhoedpencmikaaGreatDoorGl16
import Derived.Test.YtlhoedpencmikaaGreatDoorGadv
import Derived.Test.YtlhoedpencmikaaGreatDoorGtwel
import Derived.Test.YtlhoedpencmikaaGreatDoorGctlb
import Derived.Test.YtlhoedpencmikaaGreatDoorGcten
import Derived.Test.YtlhoedpencmikaaGreatDoorGseven
namespace Go.Proofs.YtlhoedpencmikaaGreatDoor
open Go.ChangeShapes Go.WideShapes Go.ChangeAt Go.RowKit
set_option linter.unusedVariables false
set_option linter.unusedSimpArgs false
set_option maxRecDepth 10000

/-- what Evict and Pick tell beside the hart -/
def evG (h : Hr) (s w : Int) : Int := if evB h s w then 0 else 1
def piG (w : Int) : Int := if piB w then 0 else 1
theorem evH_eq (h : Hr) (s w : Int) : evH h s w = if evB h s w then { h with L := dropT h.L s.toNat w.toNat } else h := by unfold evH; rfl
theorem piH_eq (h : Hr) (w : Int) : piH h w = if piB w then { h with vi := w } else h := by unfold piH; rfl
theorem piB_eq (w : Int) : piB w = decide (0 ≤ w ∧ w ≤ 3) := by unfold piB; rfl
theorem evB_eq (h : Hr) (s w : Int) : evB h s w = decide (0 ≤ s ∧ s < (h.L.length : Int) ∧ 0 ≤ w ∧ w ≤ 3) := by unfold evB; rfl
/-- what Evict answers -/
def EvT (h : Hr) (s v : Int) (w : World) (r : Ending) (w' : World) : Prop := ∃ A c, r = .returned (.tuple #[.agg (hrC ⟨A, c, evH h s v⟩), .int .i64 (evG h s v)]) ∧ RowV KS w' A (evH h s v).L c ∧ Ext w w'
/-- what Bring answers -/
def BrT (B0 : Option Addr) (S : Nat) (M : List (Nat × Nat)) (h : Hr) (a : Nat) (w : World) (r : Ending) (w' : World) : Prop :=
  ∃ A B c d, r = .returned (.tuple #[.agg (hrC ⟨A, c, brH S M h a⟩), .agg #[.int .u64 (S : Int), .slice B (brM S M h a).length d]]) ∧ RowV KS w' A (brH S M h a).L c ∧ Mem w' S B (brM S M h a) d ∧ Ext w w' ∧ ∀ lo hi, hi ≤ w.heap.size → Out lo hi B0 M.length → Out lo hi B (brM S M h a).length
end Go.Proofs.YtlhoedpencmikaaGreatDoor
/- Layer 17's laws: what they take of package adv; fits. -/
namespace Go.Proofs.YtlhoedpencmikaaGreatDoor
open Go.ChangeShapes Go.WideShapes Go.ChangeAt Go.RowKit
set_option linter.unusedVariables false
set_option linter.unusedSimpArgs false
set_option maxRecDepth 10000

/-- what package adv answers -/
structure AdvC : Prop where
  bring : ∀ (A : Option Addr) (h : Hr) (c S : Nat) (B : Option Addr) (M : List (Nat × Nat)) (d a k : Nat) (w : World), rightH h = true → h.ok → k < 3 → a < 18446744073709551616 → RowV KS w A h.L c → Mem w S B M d → M.length ≤ 990 → Layh w →
    Calls Tryz.prog 8 #[.agg (hrC ⟨A, c, h⟩), .agg #[.int .u64 (S : Int), .slice B M.length d], .int .u64 (a : Int), .int .i64 (k : Int)] w (BrT B S M h a w)
  evict : ∀ (A : Option Addr) (h : Hr) (c : Nat) (i v : Int) (w : World), rightH h = true → (-9223372036854775808 ≤ i ∧ i ≤ 9223372036854775807) → (-9223372036854775808 ≤ v ∧ v ≤ 9223372036854775807) → RowV KS w A h.L c → Layh w →
    Calls Tryz.prog 10 #[.agg (hrC ⟨A, c, h⟩), .int .i64 i, .int .i64 v] w (EvT h i v w)
  pick : ∀ (A : Option Addr) (h : Hr) (c : Nat) (y : Int) (w : World), (-9223372036854775808 ≤ y ∧ y ≤ 9223372036854775807) →
    Calls Tryz.prog 12 #[.agg (hrC ⟨A, c, h⟩), .int .i64 y] w fun r w' => r = .returned (.tuple #[.agg (hrC ⟨A, c, piH h y⟩), .int .i64 (piG y)]) ∧ Ext w w'
/-- what awake answers -/
def Awk17 : Prop := ∀ w, Layh w → Calls Tryz.prog 6 #[] w fun r w' => r = .returned (.bool true) ∧ Ext w w'
theorem br_ok {S : Nat} {M : List (Nat × Nat)} {h : Hr} {a : Nat} (hr : rightH h = true) (hok : h.ok) (hM : RL (S / 8) M) (ha : a < 18446744073709551616) : (brH S M h a).ok := by
  have B := br_stays hr hM ha
  obtain ⟨h1, h2, h3, -⟩ := hok
  refine ⟨by rw [B.sp]; exact h1, by rw [B.pr]; exact h2, ?_, fun i hi => rt_ok (right_split B.r).1 hi⟩
  cases hb : brB S M h a
  · rw [(br_no hb).2]; exact h3
  · rw [(br_yes hb).2.2.2]; exact ⟨by show (-9223372036854775808 : Int) ≤ -1; decide, by show (-1 : Int) ≤ 9223372036854775807; decide⟩
theorem ev_ok {h : Hr} (hr : rightH h = true) (hok : h.ok) (s w : Int) : (evH h s w).ok := by
  have B := ev_stays hr s w
  obtain ⟨h1, h2, h3, -⟩ := hok
  refine ⟨by rw [B.sp]; exact h1, by rw [B.pr]; exact h2, ?_, fun i hi => rt_ok (right_split B.r).1 hi⟩
  rw [evH_eq]
  split <;> exact h3
theorem pi_ok {h : Hr} (hr : rightH h = true) (hok : h.ok) {w : Int} (hw : -9223372036854775808 ≤ w ∧ w ≤ 9223372036854775807) : (piH h w).ok := by
  have B := pi_stays hr w
  obtain ⟨h1, h2, h3, -⟩ := hok
  refine ⟨by rw [B.sp]; exact h1, by rw [B.pr]; exact h2, ?_, fun i hi => rt_ok (right_split B.r).1 hi⟩
  rw [piH_eq]
  split
  · exact hw
  · exact h3
theorem pi_L (h : Hr) (w : Int) : (piH h w).L = h.L := by
  rw [piH_eq]
  split <;> rfl
/-- a box made and stored into -/
theorem nh1 (w : World) (H : Array Value) : Blk (w.alloc (.cells #[.slice none 0 0, .int .u64 0, .int .u64 0, .int .u64 0, .int .i64 0, .bool false, .bool false, .int .i64 0] 29)) w.heap.size 29 #[.slice none 0 0, .int .u64 0, .int .u64 0, .int .u64 0, .int .i64 0, .bool false, .bool false, .int .i64 0] ∧ Ext w ((w.alloc (.cells #[.slice none 0 0, .int .u64 0, .int .u64 0, .int .u64 0, .int .i64 0, .bool false, .bool false, .int .i64 0] 29)).setRow w.heap.size H) ∧ Blk ((w.alloc (.cells #[.slice none 0 0, .int .u64 0, .int .u64 0, .int .u64 0, .int .i64 0, .bool false, .bool false, .int .i64 0] 29)).setRow w.heap.size H) w.heap.size 29 H :=
  ⟨Blk.new _ _ _, ((Ext.refl w).alloc _).row (Nat.le_refl _) _, (Blk.new _ _ _).row _⟩
/-- two boxes made and stored into, in a row -/
theorem nh2 (w : World) (H Mc : Array Value) : Blk ((w.alloc (.cells #[.slice none 0 0, .int .u64 0, .int .u64 0, .int .u64 0, .int .i64 0, .bool false, .bool false, .int .i64 0] 29)).alloc (.cells #[.int .u64 0, .slice none 0 0] 32)) w.heap.size 29 #[.slice none 0 0, .int .u64 0, .int .u64 0, .int .u64 0, .int .i64 0, .bool false, .bool false, .int .i64 0] ∧ Blk (((w.alloc (.cells #[.slice none 0 0, .int .u64 0, .int .u64 0, .int .u64 0, .int .i64 0, .bool false, .bool false, .int .i64 0] 29)).alloc (.cells #[.int .u64 0, .slice none 0 0] 32)).setRow w.heap.size H) (w.heap.size + 1) 32 #[.int .u64 0, .slice none 0 0] ∧
    Ext w ((((w.alloc (.cells #[.slice none 0 0, .int .u64 0, .int .u64 0, .int .u64 0, .int .i64 0, .bool false, .bool false, .int .i64 0] 29)).alloc (.cells #[.int .u64 0, .slice none 0 0] 32)).setRow w.heap.size H).setRow (w.heap.size + 1) Mc) ∧ Blk ((((w.alloc (.cells #[.slice none 0 0, .int .u64 0, .int .u64 0, .int .u64 0, .int .i64 0, .bool false, .bool false, .int .i64 0] 29)).alloc (.cells #[.int .u64 0, .slice none 0 0] 32)).setRow w.heap.size H).setRow (w.heap.size + 1) Mc) w.heap.size 29 H ∧ Blk ((((w.alloc (.cells #[.slice none 0 0, .int .u64 0, .int .u64 0, .int .u64 0, .int .i64 0, .bool false, .bool false, .int .i64 0] 29)).alloc (.cells #[.int .u64 0, .slice none 0 0] 32)).setRow w.heap.size H).setRow (w.heap.size + 1) Mc) (w.heap.size + 1) 32 Mc := by
  have zz1 : Blk ((w.alloc (.cells #[.slice none 0 0, .int .u64 0, .int .u64 0, .int .u64 0, .int .i64 0, .bool false, .bool false, .int .i64 0] 29)).alloc (.cells #[.int .u64 0, .slice none 0 0] 32)) w.heap.size 29 #[.slice none 0 0, .int .u64 0, .int .u64 0, .int .u64 0, .int .i64 0, .bool false, .bool false, .int .i64 0] := (Blk.new _ _ _).alloc _
  have zz2 : Blk (((w.alloc (.cells #[.slice none 0 0, .int .u64 0, .int .u64 0, .int .u64 0, .int .i64 0, .bool false, .bool false, .int .i64 0] 29)).alloc (.cells #[.int .u64 0, .slice none 0 0] 32)).setRow w.heap.size H) (w.heap.size + 1) 32 #[.int .u64 0, .slice none 0 0] := Blk.apart (blk_at (by simp)) (by omega) _
  exact ⟨zz1, zz2, ((((Ext.refl w).alloc _).alloc _).row (Nat.le_refl _) _).row (by omega) _, (zz1.row _).apart (by omega) _, zz2.row _⟩
set_option maxHeartbeats 1000000 in
theorem fits17_c (A : Option Addr) (h : Hr) (c S : Nat) (B : Option Addr) (M : List (Nat × Nat)) (d : Nat) (hS : S < 18446744073709551616) (hM : IsCells M) (w : World) (hr : RowV KS w A h.L c) (hm : RowL w B M d) :
    Calls Tryz.prog 7 #[.agg (hrC ⟨A, c, h⟩), .agg #[.int .u64 (S : Int), .slice B M.length d]] w fun r w' => r = .returned (.bool (fitH h S M)) ∧ Ext w w' := by
  have h1 : Blk ((w.alloc (.cells (hrC ⟨A, c, h⟩) 29)).alloc (.cells #[.int .u64 (S : Int), .slice B M.length d] 32)) w.heap.size 29 (hrC ⟨A, c, h⟩) := (Blk.new w _ _).alloc _
  have h2 : Blk ((w.alloc (.cells (hrC ⟨A, c, h⟩) 29)).alloc (.cells #[.int .u64 (S : Int), .slice B M.length d] 32)) (w.heap.size + 1) 32 #[.int .u64 (S : Int), .slice B M.length d] := blk_at (by simp)
  have HE := Lib.hid (((Ext.refl w).alloc (.cells (hrC ⟨A, c, h⟩) 29)).alloc (.cells #[.int .u64 (S : Int), .slice B M.length d] 32))
  have x0 := h1.hr.s
  have hq : fitH h S M = (decide (h.L.length ≤ 16) && (rightH h && (decide (M.length ≤ 300) && decide (RightM S M)))) := by unfold fitH; rfl
  have crt := fun w k => rright16_c A h c w k
  have cfw := fun w => few_c S B M d w
  by_cases h16 : h.L.length ≤ 16
  case neg =>
    have d0 : decide ((h.L.length : Int) ≤ 16) = false := by simp; omega
    rw [show decide (h.L.length ≤ 16) = false by simp; omega] at hq
    clear h16 crt cfw
    go_enter Tryz.func7, Tryz.ntmps7
    go_wp2
    go_ret
    refine ⟨?_, HE.out⟩
    rw [hq]
    first | rfl | simp
  have d0 : decide ((h.L.length : Int) ≤ 16) = true := by simp; omega
  rw [show decide (h.L.length ≤ 16) = true by simp; omega] at hq
  generalize rightH h = R at *
  clear h16
  go_enter Tryz.func7, Tryz.ntmps7
  go_wp2_with (refine wpList_load_blk (by rfl) 29 _ rfl rfl h1 Tryz.underlying29 rfl (by kernel_rfl) ?_)
  refine (crt _ (hr.ext HE.out)).mono ?_
  rintro e w' ⟨rfl, hE⟩
  (try replace hm := hm.ext hE); (try replace h1 := h1.ext hE); (try replace h2 := h2.ext hE); (try replace h3 := h3.ext hE); (try replace hM := hM.ext hE); (try replace HE := Lib.hid (HE.out.trans hE)); (try replace r0 := r0.ext hE); (try replace r1 := r1.ext hE); (try replace r2 := r2.ext hE); (try replace r3 := r3.ext hE); (try replace r4 := r4.ext hE); (try replace r5 := r5.ext hE); (try replace r6 := r6.ext hE)
  clear hE crt x0
  cases R
  · skip
    go_wp2
    go_ret
    refine ⟨?_, HE.out⟩
    rw [hq]
    first | rfl | simp
  by_cases h3 : M.length ≤ 300
  case neg =>
    rw [show decide (M.length ≤ 300) = false by simpa using h3] at hq cfw
    go_wp2_with ((refine wpList_load_blk (by rfl) 32 _ rfl rfl h2 Tryz.underlying32 rfl (by kernel_rfl) ?_)); refine (cfw _).mono ?_; rintro e w' ⟨rfl, hE⟩; (try replace hm := hm.ext hE); (try replace h1 := h1.ext hE); (try replace h2 := h2.ext hE); (try replace h3 := h3.ext hE); (try replace hM := hM.ext hE); (try replace HE := Lib.hid (HE.out.trans hE)); (try replace r0 := r0.ext hE); (try replace r1 := r1.ext hE); (try replace r2 := r2.ext hE); (try replace r3 := r3.ext hE); (try replace r4 := r4.ext hE); (try replace r5 := r5.ext hE); (try replace r6 := r6.ext hE); clear hE
    clear cfw
    go_wp2
    go_ret
    refine ⟨?_, HE.out⟩
    rw [hq]
    first | rfl | simp
  rw [show decide (M.length ≤ 300) = true by simpa using h3] at hq cfw
  have crm := fun w k => rright_c S B M d hS hM (by omega) w k
  go_wp2_with ((refine wpList_load_blk (by rfl) 32 _ rfl rfl h2 Tryz.underlying32 rfl (by kernel_rfl) ?_)); refine (cfw _).mono ?_; rintro e w' ⟨rfl, hE⟩; (try replace hm := hm.ext hE); (try replace h1 := h1.ext hE); (try replace h2 := h2.ext hE); (try replace h3 := h3.ext hE); (try replace hM := hM.ext hE); (try replace HE := Lib.hid (HE.out.trans hE)); (try replace r0 := r0.ext hE); (try replace r1 := r1.ext hE); (try replace r2 := r2.ext hE); (try replace r3 := r3.ext hE); (try replace r4 := r4.ext hE); (try replace r5 := r5.ext hE); (try replace r6 := r6.ext hE); clear hE
  clear cfw
  go_wp2_with ((refine wpList_load_blk (by rfl) 32 _ rfl rfl h2 Tryz.underlying32 rfl (by kernel_rfl) ?_)); refine (crm _ (hm.1.ext HE.out)).mono ?_; rintro e w' ⟨rfl, hE⟩; (try replace hm := hm.ext hE); (try replace h1 := h1.ext hE); (try replace h2 := h2.ext hE); (try replace h3 := h3.ext hE); (try replace hM := hM.ext hE); (try replace HE := Lib.hid (HE.out.trans hE)); (try replace r0 := r0.ext hE); (try replace r1 := r1.ext hE); (try replace r2 := r2.ext hE); (try replace r3 := r3.ext hE); (try replace r4 := r4.ext hE); (try replace r5 := r5.ext hE); (try replace r6 := r6.ext hE); clear hE
  clear crm
  go_wp2
  go_ret
  refine ⟨?_, HE.out⟩
  rw [hq]
  first | rfl | simp
end Go.Proofs.YtlhoedpencmikaaGreatDoor
/- Package adv: look, Bring, Evict, Pick; and so all that the laws take of it. -/
namespace Go.Proofs.YtlhoedpencmikaaGreatDoor
open Go.ChangeShapes Go.WideShapes Go.ChangeAt Go.RowKit
set_option linter.unusedVariables false
set_option linter.unusedSimpArgs false
set_option maxRecDepth 10000

theorem put17_any (A : Option Addr) (L : List St) (c : Nat) (e : En) (v : Int) (hrt : rightT L = true) (hm : mayE e = true) (hv : e.v = true) (w : World) (hr : RowV KS w A L c) (hT : Lays w) :
    Calls Tryz.prog 28 #[.agg #[.slice A L.length c], .agg (enC e), .int .i64 v] w (TlbR (putT e v L) w) := by
  have hl := rt_len hrt
  rcases Nat.eq_zero_or_pos L.length with h0 | hp
  · obtain rfl := List.eq_nil_of_length_eq_zero h0
    exact (put14p_nil A c e v w).mono fun r w' ⟨h1, hE⟩ => ⟨A, c, by rw [putT_nil rfl]; exact h1, by rw [putT_nil rfl]; exact hr.ext hE, hE⟩
  · have k := may_v hm hv
    exact (put14p_c A L c (by omega) hp e v k.l0 k.l2 (by have := (may_lt hm).1; omega) (right_t (rt_s hrt (ix_lt hp _ _))) w hr hT).mono fun r w' ⟨A', c', h1, h2, _, h4⟩ => ⟨A', c', h1, h2, h4⟩
theorem drop17_c (A : Option Addr) (h : Hr) (c : Nat) (i v : Int) (hrt : rightT h.L = true) (w : World) (hr : RowV KS w A h.L c) (hT : Lays w) :
    Calls Tryz.prog 34 #[.agg #[.slice A h.L.length c], .int .i64 i, .int .i64 v] w fun r w' => ∃ A' c', r = .returned (.tuple #[.agg #[.slice A' (evH h i v).L.length c'], .int .i64 (evG h i v)]) ∧ RowV KS w' A' (evH h i v).L c' ∧ Ext w w' := by
  have hl := rt_len hrt
  unfold evG
  cases hb : evB h i v
  · have hq : evH h i v = h := by rw [evH_eq, hb]; rfl
    rw [hq]
    have hn : ¬ (0 ≤ i ∧ i < h.L.length ∧ 0 ≤ v ∧ v ≤ 3) := by
      rw [evB_eq, decide_eq_false_iff_not] at hb
      exact hb
    exact (drop14p_no A h.L.length c i v hn w).mono fun r w' ⟨h1, h2⟩ => ⟨A, c, h1, hr.ext h2, h2⟩
  · obtain ⟨e1, e2, e3, e4, e5⟩ := ev_cases hb
    rw [e5]
    have hc := drop14p_c A h.L c (by omega) i.toNat v.toNat e1 e2 w hr hT
    rw [e3, e4] at hc
    exact hc.mono fun r w' ⟨A', c', h1, h2, _, h4⟩ => ⟨A', c', h1, h2, h4⟩
/-- what adv.look answers -/
def LkT (S : Nat) (M : List (Nat × Nat)) (h : Hr) (a : Nat) (w : World) (r : Ending) (w' : World) : Prop :=
  ∃ l, r = .returned (.tuple #[.agg (lfC l), .bool (brB S M h a)]) ∧ (brB S M h a = true → l = (lookN S M h.sp.pp a).lf) ∧ Ext w w'
attribute [local irreducible] World.setRow World.alloc Blk
theorem pick17_c (A : Option Addr) (h : Hr) (c : Nat) (y : Int) (w : World) :
    Calls Tryz.prog 12 #[.agg (hrC ⟨A, c, h⟩), .int .i64 y] w fun r w' => r = .returned (.tuple #[.agg (hrC ⟨A, c, piH h y⟩), .int .i64 (piG y)]) ∧ Ext w w' := by
  have h1 : Blk ((w.alloc (.cells (hrC ⟨A, c, h⟩) 29)).alloc (.cells #[.slice none 0 0, .int .u64 0, .int .u64 0, .int .u64 0, .int .i64 0, .bool false, .bool false, .int .i64 0] 29)) w.heap.size 29 (hrC ⟨A, c, h⟩) := (Blk.new w _ _).alloc _
  have k2 : Blk ((w.alloc (.cells (hrC ⟨A, c, h⟩) 29)).alloc (.cells #[.slice none 0 0, .int .u64 0, .int .u64 0, .int .u64 0, .int .i64 0, .bool false, .bool false, .int .i64 0] 29)) (w.heap.size + 1) 29 #[.slice none 0 0, .int .u64 0, .int .u64 0, .int .u64 0, .int .i64 0, .bool false, .bool false, .int .i64 0] := blk_at (by simp)
  have HE := Lib.hid (((Ext.refl w).alloc (.cells (hrC ⟨A, c, h⟩) 29)).alloc (.cells #[.slice none 0 0, .int .u64 0, .int .u64 0, .int .u64 0, .int .i64 0, .bool false, .bool false, .int .i64 0] 29))
  by_cases h0 : 0 ≤ y
  · have d1 : decide (y < 0) = false := by simp; omega
    by_cases h3 : y ≤ 3
    · have d2 : decide (4 ≤ y) = false := by simp; omega
      have hb : piB y = true := by rw [piB_eq, decide_eq_true_iff]; exact ⟨h0, h3⟩
      have hq : piH h y = { h with vi := y } := by rw [piH_eq, hb, if_pos rfl]
      have hg : piG y = 0 := by unfold piG; rw [hb, if_pos rfl]
      clear h0 h3 hb
      go_enter Tryz.func12, Tryz.ntmps12
      go_upto_region 4 with (refine wpList_store_cell rfl 3 _ _ rfl rfl rfl h1 (by simp [hrC_size]) (hrC_set7 A c h y) (by kernel_rfl) rfl rfl ?_)
      simp only [Act.put, List.setIfInBounds_toArray, List.set_cons_zero, List.set_cons_succ]
      replace k2 := k2.apart (show w.heap.size + 1 ≠ w.heap.size by omega) (hrC ⟨A, c, { h with vi := y }⟩)
      replace h1 := h1.row (hrC ⟨A, c, { h with vi := y }⟩)
      replace HE := Lib.hid (HE.out.row (Nat.le_refl _) (hrC ⟨A, c, { h with vi := y }⟩))
      generalize ((w.alloc (.cells (hrC ⟨A, c, h⟩) 29)).alloc (.cells #[.slice none 0 0, .int .u64 0, .int .u64 0, .int .u64 0, .int .i64 0, .bool false, .bool false, .int .i64 0] 29)).setRow w.heap.size (hrC ⟨A, c, { h with vi := y }⟩) = W1 at *
      go_wp2_with (first | (refine wpList_load_blk (by rfl) 29 _ rfl rfl h1 Tryz.underlying29 rfl (by kernel_rfl) ?_) | (refine wpList_store_blk rfl 29 _ _ rfl rfl rfl k2 (hr_info _) (by simp [hrC_size]) (hrC_one _) ?_))
      (try simp only [Exit.inBlock, Exit.then]); (try rw [Exit.noGoto_ret]); refine bodyPost_ret (results_c2 rfl _ _ _ _ _ _ rfl ((k2.row _)) rfl Tryz.underlying29 (hr_info _)) rfl ?_
      exact ⟨by rw [hq, hg]; rfl, HE.out.row (by omega) _⟩
    · have d2 : decide (4 ≤ y) = true := by simp; omega
      have hb : piB y = false := by rw [piB_eq, decide_eq_false_iff_not]; omega
      have hq : piH h y = h := by rw [piH_eq, hb]; rfl
      have hg : piG y = 1 := by unfold piG; rw [hb]; rfl
      clear h0 h3 hb
      go_enter Tryz.func12, Tryz.ntmps12
      go_wp2_with (first | (refine wpList_load_blk (by rfl) 29 _ rfl rfl h1 Tryz.underlying29 rfl (by kernel_rfl) ?_) | (refine wpList_store_blk rfl 29 _ _ rfl rfl rfl k2 (hr_info _) (by simp [hrC_size]) (hrC_one _) ?_))
      (try simp only [Exit.inBlock, Exit.then]); (try rw [Exit.noGoto_ret]); refine bodyPost_ret (results_c2 rfl _ _ _ _ _ _ rfl ((k2.row _)) rfl Tryz.underlying29 (hr_info _)) rfl ?_
      exact ⟨by rw [hq, hg]; rfl, HE.out.row (by omega) _⟩
  · have d1 : decide (y < 0) = true := by simp; omega
    have hb : piB y = false := by rw [piB_eq, decide_eq_false_iff_not]; omega
    have hq : piH h y = h := by rw [piH_eq, hb]; rfl
    have hg : piG y = 1 := by unfold piG; rw [hb]; rfl
    clear h0 hb
    go_enter Tryz.func12, Tryz.ntmps12
    go_wp2_with (first | (refine wpList_load_blk (by rfl) 29 _ rfl rfl h1 Tryz.underlying29 rfl (by kernel_rfl) ?_) | (refine wpList_store_blk rfl 29 _ _ rfl rfl rfl k2 (hr_info _) (by simp [hrC_size]) (hrC_one _) ?_))
    (try simp only [Exit.inBlock, Exit.then]); (try rw [Exit.noGoto_ret]); refine bodyPost_ret (results_c2 rfl _ _ _ _ _ _ rfl ((k2.row _)) rfl Tryz.underlying29 (hr_info _)) rfl ?_
    exact ⟨by rw [hq, hg]; rfl, HE.out.row (by omega) _⟩
theorem evict17_c (A : Option Addr) (h : Hr) (c : Nat) (i v : Int) (hrt : rightT h.L = true) (w : World) (hr : RowV KS w A h.L c) (hT : Layh w) :
    Calls Tryz.prog 10 #[.agg (hrC ⟨A, c, h⟩), .int .i64 i, .int .i64 v] w (EvT h i v w) := by
  have h1 : Blk ((w.alloc (.cells (hrC ⟨A, c, h⟩) 29)).alloc (.cells #[.slice none 0 0, .int .u64 0, .int .u64 0, .int .u64 0, .int .i64 0, .bool false, .bool false, .int .i64 0] 29)) w.heap.size 29 (hrC ⟨A, c, h⟩) := (Blk.new w _ _).alloc _
  have k2 : Blk ((w.alloc (.cells (hrC ⟨A, c, h⟩) 29)).alloc (.cells #[.slice none 0 0, .int .u64 0, .int .u64 0, .int .u64 0, .int .i64 0, .bool false, .bool false, .int .i64 0] 29)) (w.heap.size + 1) 29 #[.slice none 0 0, .int .u64 0, .int .u64 0, .int .u64 0, .int .i64 0, .bool false, .bool false, .int .i64 0] := blk_at (by simp)
  have HE := Lib.hid (((Ext.refl w).alloc (.cells (hrC ⟨A, c, h⟩) 29)).alloc (.cells #[.slice none 0 0, .int .u64 0, .int .u64 0, .int .u64 0, .int .i64 0, .bool false, .bool false, .int .i64 0] 29))
  have hrow : ∀ W : World, Ext w W → RowV KS W A h.L c := fun W e => hr.ext e
  have hTE : ∀ W : World, Ext w W → Layh W := fun W e => hT.ext e
  have cdr := fun W r t => drop17_c A h c i v hrt W r t
  have hL : evH h i v = { h with L := (evH h i v).L } := by
    rw [evH_eq]
    split <;> rfl
  unfold EvT
  generalize evG h i v = G at *
  generalize evH h i v = H at *
  have EL := Lib.hid hL
  clear hrt hL
  go_enter Tryz.func10, Tryz.ntmps10
  go_wp2_with (refine wpList_load_part (by rfl) 24 _ rfl rfl h1 (hrC_tlb A c h) Tryz.underlying24 rfl (tb_info _) ?_)
  refine (cdr _ (hrow _ HE.out) (hTE _ HE.out).s).mono ?_
  rintro r5 w' ⟨A2, c2, rfl, hr2, hE⟩
  replace h1 := h1.ext hE
  replace k2 := k2.ext hE
  replace HE := Lib.hid (HE.out.trans hE)
  clear hE cdr hrow hr hTE
  go_upto_region 3 with (refine wpList_store_part rfl 24 _ _ rfl rfl rfl h1 (by rw [hrC_size]; show 0 + 1 ≤ 8; decide) (hrC_put0 A A2 c c2 h (L := H.L) rfl) (tb_info _) (tbx_one _ _ _) ?_)
  (try simp only [Act.put, List.setIfInBounds_toArray, List.set_cons_zero, List.set_cons_succ])
  rw [← EL.out]
  replace k2 := k2.apart (show w.heap.size + 1 ≠ w.heap.size by omega) (hrC ⟨A2, c2, H⟩)
  replace hr2 := hr2.set h1 (by rw [hrC_size]; decide) (hrC ⟨A2, c2, H⟩)
  replace HE := Lib.hid (HE.out.row (Nat.le_refl _) (hrC ⟨A2, c2, H⟩))
  replace h1 := h1.row (hrC ⟨A2, c2, H⟩)
  generalize w'.setRow w.heap.size (hrC ⟨A2, c2, H⟩) = W2 at *
  go_wp2_with (first | (refine wpList_load_blk (by rfl) 29 _ rfl rfl h1 Tryz.underlying29 rfl (by kernel_rfl) ?_) | (refine wpList_store_blk rfl 29 _ _ rfl rfl rfl k2 (hr_info _) (by simp [hrC_size]) (hrC_one _) ?_))
  (try simp only [Exit.inBlock, Exit.then]); (try rw [Exit.noGoto_ret]); refine bodyPost_ret (results_c2 rfl _ _ _ _ _ _ rfl ((k2.row _)) rfl Tryz.underlying29 (hr_info _)) rfl ?_
  exact ⟨A2, c2, rfl, hr2.set k2 (by decide) _, HE.out.row (by omega) _⟩
set_option maxHeartbeats 2000000 in
theorem look17_c (A : Option Addr) (h : Hr) (c S : Nat) (B : Option Addr) (M : List (Nat × Nat)) (d a k : Nat) (hpp : h.sp.pp < 17592186044416) (hk : k < 3) (a1 : a < 18446744073709551616) (w : World) (hM : Mem w S B M d) (hT : Lay w) :
    Calls Tryz.prog 26 #[.agg (hrC ⟨A, c, h⟩), .agg #[.int .u64 (S : Int), .slice B M.length d], .int .u64 (a : Int), .int .i64 (k : Int)] w (LkT S M h a w) := by
  obtain ⟨W0, hW⟩ : ∃ W0, W0 = ((w.alloc (.cells (hrC ⟨A, c, h⟩) 29)).alloc (.cells #[.int .u64 (S : Int), .slice B M.length d] 32)).alloc (.cells #[.int .i64 0, .int .u64 0, .bool false, .bool false, .bool false, .bool false, .bool false, .bool false, .bool false, .bool false, .int .u64 0, .int .u64 0, .int .u64 0] 75) := ⟨_, rfl⟩
  have HE : Hid (Ext w W0) := Lib.hid (by rw [hW]; exact (((Ext.refl w).alloc _).alloc _).alloc _)
  have h1 : Blk W0 w.heap.size 29 (hrC ⟨A, c, h⟩) := by rw [hW]; exact ((Blk.new w _ _).alloc _).alloc _
  have h2 : Blk W0 (w.heap.size + 1) 32 #[.int .u64 (S : Int), .slice B M.length d] := by rw [hW]; exact (blk_at (by simp)).alloc _
  have k3 : Blk W0 (w.heap.size + 2) 75 #[.int .i64 0, .int .u64 0, .bool false, .bool false, .bool false, .bool false, .bool false, .bool false, .bool false, .bool false, .int .u64 0, .int .u64 0, .int .u64 0] := by rw [hW]; exact blk_at (by simp)
  have hMm : ∀ W : World, Ext w W → Mem W S B M d := fun W e => hM.ext e
  have hTE : ∀ W : World, Ext w W → Lay W := fun W e => hT.ext e
  have crl := fun W m t => look_c (w := W) (S := S) (A := B) (L := M) (c := d) m (r := h.sp.pp) (a := a) hpp a1 k hk t
  have con := fun W => on7_c h.sp W
  have HW := Lib.hid hW
  clear hW
  unfold LkT
  by_cases hmd : h.sp.md = 8
  case neg =>
    have hb : brB S M h a = false := by unfold brB; simp [hmd]
    rw [hb]
    rw [decide_eq_false hmd] at con
    clear hb crl hmd
    go_enter Tryz.func26, Tryz.ntmps26
    go_upto_region 1 with fail
    rw [← HW.out]
    clear HW
    go_wp2_with ((refine wpList_load_part (by rfl) 27 _ rfl rfl h1 (hrC_sp A c h) Tryz.underlying27 rfl (sp_info _) ?_)); refine (con _).mono ?_; rintro e w' ⟨rfl, hE⟩; (try replace hb := hb.ext hE); (try replace h1 := h1.ext hE); (try replace h2 := h2.ext hE); (try replace h5 := h5.ext hE); (try replace h6 := h6.ext hE); (try replace k3 := k3.ext hE); (try replace hM := hM.ext hE); (try replace HE := Lib.hid (HE.out.trans hE)); (try replace r0 := r0.ext hE); (try replace r1 := r1.ext hE); (try replace r2 := r2.ext hE); (try replace r3 := r3.ext hE); (try replace r4 := r4.ext hE); (try replace r5 := r5.ext hE); (try replace r6 := r6.ext hE); clear hE
    go_wp2_with (first | (refine wpList_build_as (by rfl) rfl (lf_build0) ?_) | (refine wpList_store_blk rfl 75 _ _ rfl rfl rfl k3 (lf_info _) (by simp [lfC_size]) (lfC_one _) ?_))
    (try simp only [Exit.inBlock, Exit.then]); (try rw [Exit.noGoto_ret]); refine bodyPost_ret (results_c2 rfl _ _ _ _ _ _ rfl ((k3.row _)) rfl Tryz.underlying75 (lf_info _)) rfl ?_
    exact ⟨zLf, rfl, fun h => (by cases h), HE.out.row (by omega) _⟩
  have d0 : decide ((k : Int) < 0) = false := by simp
  have d1 : decide (2 < (k : Int)) = false := by simp; omega
  rw [decide_eq_true hmd] at con
  have hq : brB S M h a = !(fltF (lookN S M h.sp.pp a).so k a).b := by
    unfold brB
    rw [decide_eq_true hmd, Bool.true_and]
    by_cases hs : (lookN S M h.sp.pp a).so = 0
    · rw [hs, flt_zero]; rfl
    · rw [flt_eq hs, decide_eq_false hs]; rfl
  rw [hq]
  clear hq hmd
  generalize fltF (lookN S M h.sp.pp a).so k a = F at *
  generalize (lookN S M h.sp.pp a).lf = l at *
  go_enter Tryz.func26, Tryz.ntmps26
  go_upto_region 1 with fail
  rw [← HW.out]
  clear HW
  go_wp2_with ((refine wpList_load_part (by rfl) 27 _ rfl rfl h1 (hrC_sp A c h) Tryz.underlying27 rfl (sp_info _) ?_)); refine (con _).mono ?_; rintro e w' ⟨rfl, hE⟩; (try replace hb := hb.ext hE); (try replace h1 := h1.ext hE); (try replace h2 := h2.ext hE); (try replace h5 := h5.ext hE); (try replace h6 := h6.ext hE); (try replace k3 := k3.ext hE); (try replace hM := hM.ext hE); (try replace HE := Lib.hid (HE.out.trans hE)); (try replace r0 := r0.ext hE); (try replace r1 := r1.ext hE); (try replace r2 := r2.ext hE); (try replace r3 := r3.ext hE); (try replace r4 := r4.ext hE); (try replace r5 := r5.ext hE); (try replace r6 := r6.ext hE); clear hE
  clear con
  have x2 := h1.hr.pp
  go_wp2_with (refine wpList_load_blk (by rfl) 32 _ rfl rfl h2 Tryz.underlying32 rfl (by kernel_rfl) ?_)
  clear x2 d0 d1
  refine (crl _ (hMm _ HE.out) (hTE _ HE.out)).mono ?_
  rintro r5 w' ⟨rfl, hE⟩
  (try replace hb := hb.ext hE); (try replace h1 := h1.ext hE); (try replace h2 := h2.ext hE); (try replace h5 := h5.ext hE); (try replace h6 := h6.ext hE); (try replace k3 := k3.ext hE); (try replace hM := hM.ext hE); (try replace HE := Lib.hid (HE.out.trans hE)); (try replace r0 := r0.ext hE); (try replace r1 := r1.ext hE); (try replace r2 := r2.ext hE); (try replace r3 := r3.ext hE); (try replace r4 := r4.ext hE); (try replace r5 := r5.ext hE); (try replace r6 := r6.ext hE)
  clear hE crl
  have hs3 := k3.lt
  have zz1 : Blk ((w'.alloc (.cells #[.int .i64 0, .int .u64 0, .bool false, .bool false, .bool false, .bool false, .bool false, .bool false, .bool false, .bool false, .int .u64 0, .int .u64 0, .int .u64 0] 75)).alloc (.cells #[.bool false, .int .i64 0, .int .u64 0] 54)) w'.heap.size 75 #[.int .i64 0, .int .u64 0, .bool false, .bool false, .bool false, .bool false, .bool false, .bool false, .bool false, .bool false, .int .u64 0, .int .u64 0, .int .u64 0] := (Blk.new _ _ _).alloc _; have zz2 : Blk (((w'.alloc (.cells #[.int .i64 0, .int .u64 0, .bool false, .bool false, .bool false, .bool false, .bool false, .bool false, .bool false, .bool false, .int .u64 0, .int .u64 0, .int .u64 0] 75)).alloc (.cells #[.bool false, .int .i64 0, .int .u64 0] 54)).setRow w'.heap.size (lfC l)) (w'.heap.size + 1) 54 #[.bool false, .int .i64 0, .int .u64 0] := Blk.apart (blk_at (by simp)) (by omega) _; have hE := ((((Ext.refl w').alloc (.cells #[.int .i64 0, .int .u64 0, .bool false, .bool false, .bool false, .bool false, .bool false, .bool false, .bool false, .bool false, .int .u64 0, .int .u64 0, .int .u64 0] 75)).alloc (.cells #[.bool false, .int .i64 0, .int .u64 0] 54)).row (show w'.heap.size ≤ w'.heap.size from Nat.le_refl _) (lfC l)).row (show w'.heap.size ≤ w'.heap.size + 1 by omega) (ftC F); (try replace hb := hb.ext hE); (try replace h1 := h1.ext hE); (try replace h2 := h2.ext hE); (try replace h5 := h5.ext hE); (try replace h6 := h6.ext hE); (try replace k3 := k3.ext hE); (try replace hM := hM.ext hE); (try replace HE := Lib.hid (HE.out.trans hE)); clear hE; have h5 := (zz1.row (lfC l)).apart (show w'.heap.size ≠ w'.heap.size + 1 by omega) (ftC F); have h6 := zz2.row (ftC F)
  go_upto_region 4 with (first | (refine wpList_store_blk rfl 75 _ _ rfl rfl rfl zz1 (lf_info _) (by simp [lfC_size]) (lfC_one _) ?_) | ((refine wpList_store_blk rfl 54 _ _ rfl rfl rfl zz2 (ft_info _) (by simp [ftC_size]) (ftC_one _) ?_); clear zz1 zz2; generalize (((w'.alloc (.cells #[.int .i64 0, .int .u64 0, .bool false, .bool false, .bool false, .bool false, .bool false, .bool false, .bool false, .bool false, .int .u64 0, .int .u64 0, .int .u64 0] 75)).alloc (.cells #[.bool false, .int .i64 0, .int .u64 0] 54)).setRow w'.heap.size (lfC l)).setRow (w'.heap.size + 1) (ftC F) = X at *))
  (try simp only [Act.put, List.setIfInBounds_toArray, List.set_cons_zero, List.set_cons_succ])
  (try replace hb := Blk.drew hb); (try replace h1 := Blk.drew h1); (try replace h2 := Blk.drew h2); (try replace h5 := Blk.drew h5); (try replace h6 := Blk.drew h6); (try replace k3 := Blk.drew k3); replace HE := Lib.hid HE.out.drew
  refine wp_region_seq [(0, false), (1, false), (2, false), (3, false), (4, true), (5, false)] (Gap (w.heap.size + 2) (w.heap.size + 3)) (by kernel_rfl) (by kernel_rfl) (Gap.refl _ _) (fun _ _ _ => Gap.trans) ?_; simp only [List.map, nth_z, nth_s]
  (repeat (first | (refine seq_skip (by rfl) ?_; intro K hK; simp only [Act.put, List.setIfInBounds_toArray, List.set_cons_zero, List.set_cons_succ]; refine hK _ ?_; clear hK K) | (refine seq_skipc (by rfl) ?_; intro K hK; simp only [Act.put, List.setIfInBounds_toArray, List.set_cons_zero, List.set_cons_succ]; refine hK _ ?_; clear hK K) | (refine seq_read (by rfl) (by rfl) ?_; intro K hK; go_big_quiet_op; first | go_big_quiet_on | (refine ⟨_, fun _ _ => rfl, ?_⟩; go_big_quiet_on)) | (refine seq_nil rfl rfl (by rfl) ?_; intro K hK; simp only [Act.put, List.setIfInBounds_toArray, List.set_cons_zero, List.set_cons_succ]; refine hK _ ?_; clear hK K)))
  refine seq_load rfl rfl (fun x hx => Gap.blk hx (h5) (by omega)) rfl Tryz.underlying75 (lf_info _) (by rfl) ?_; intro K hK; simp only [Act.put, List.setIfInBounds_toArray, List.set_cons_zero, List.set_cons_succ]; refine hK _ ?_; clear hK K
  (repeat (first | (refine seq_skip (by rfl) ?_; intro K hK; simp only [Act.put, List.setIfInBounds_toArray, List.set_cons_zero, List.set_cons_succ]; refine hK _ ?_; clear hK K) | (refine seq_skipc (by rfl) ?_; intro K hK; simp only [Act.put, List.setIfInBounds_toArray, List.set_cons_zero, List.set_cons_succ]; refine hK _ ?_; clear hK K) | (refine seq_read (by rfl) (by rfl) ?_; intro K hK; go_big_quiet_op; first | go_big_quiet_on | (refine ⟨_, fun _ _ => rfl, ?_⟩; go_big_quiet_on)) | (refine seq_nil rfl rfl (by rfl) ?_; intro K hK; simp only [Act.put, List.setIfInBounds_toArray, List.set_cons_zero, List.set_cons_succ]; refine hK _ ?_; clear hK K)))
  refine seq_value (.bool F.b) (by rfl) (fun x hx => by have hq := ((Gap.blk hx h6 (by omega)).ft.1); simp [go_sem, execOp, Act.eval, hq]) ?_; intro K hK; simp only [Act.put, List.setIfInBounds_toArray, List.set_cons_zero, List.set_cons_succ]; refine hK _ ?_; clear hK K
  (repeat (first | (refine seq_skip (by rfl) ?_; intro K hK; simp only [Act.put, List.setIfInBounds_toArray, List.set_cons_zero, List.set_cons_succ]; refine hK _ ?_; clear hK K) | (refine seq_skipc (by rfl) ?_; intro K hK; simp only [Act.put, List.setIfInBounds_toArray, List.set_cons_zero, List.set_cons_succ]; refine hK _ ?_; clear hK K) | (refine seq_read (by rfl) (by rfl) ?_; intro K hK; go_big_quiet_op; first | go_big_quiet_on | (refine ⟨_, fun _ _ => rfl, ?_⟩; go_big_quiet_on)) | (refine seq_nil rfl rfl (by rfl) ?_; intro K hK; simp only [Act.put, List.setIfInBounds_toArray, List.set_cons_zero, List.set_cons_succ]; refine hK _ ?_; clear hK K)))
  refine seq_store_row rfl rfl rfl (k3) (lf_info _) (by simp [lfC_size]) (lfC_one _) (by rfl) (Gap.row _ (by omega) (by omega) _) ?_; intro K hK; simp only [Act.put, List.setIfInBounds_toArray, List.set_cons_zero, List.set_cons_succ]; refine hK _ _ ?_; clear hK K
  (repeat (first | (refine seq_skip (by rfl) ?_; intro K hK; simp only [Act.put, List.setIfInBounds_toArray, List.set_cons_zero, List.set_cons_succ]; refine hK _ ?_; clear hK K) | (refine seq_skipc (by rfl) ?_; intro K hK; simp only [Act.put, List.setIfInBounds_toArray, List.set_cons_zero, List.set_cons_succ]; refine hK _ ?_; clear hK K) | (refine seq_read (by rfl) (by rfl) ?_; intro K hK; go_big_quiet_op; first | go_big_quiet_on | (refine ⟨_, fun _ _ => rfl, ?_⟩; go_big_quiet_on)) | (refine seq_nil rfl rfl (by rfl) ?_; intro K hK; simp only [Act.put, List.setIfInBounds_toArray, List.set_cons_zero, List.set_cons_succ]; refine hK _ ?_; clear hK K)))
  refine seq_done ?_
  go_wp2
  (try simp only [Exit.inBlock, Exit.then]); (try rw [Exit.noGoto_ret]); refine bodyPost_ret (results_c2 rfl _ _ _ _ _ _ rfl ((k3.row _)) rfl Tryz.underlying75 (lf_info _)) rfl ?_
  exact ⟨l, rfl, fun _ => rfl, HE.out.row (by omega) _⟩
set_option maxHeartbeats 4000000 in
theorem bring17_c (A : Option Addr) (h : Hr) (c S : Nat) (B : Option Addr) (M : List (Nat × Nat)) (d a k : Nat) (hr : rightH h = true) (hk : k < 3) (a1 : a < 18446744073709551616) (w : World) (hrw : RowV KS w A h.L c) (hM : Mem w S B M d) (hf : M.length ≤ 990) (hT : Layh w) :
    Calls Tryz.prog 8 #[.agg (hrC ⟨A, c, h⟩), .agg #[.int .u64 (S : Int), .slice B M.length d], .int .u64 (a : Int), .int .i64 (k : Int)] w (BrT B S M h a w) := by
  obtain ⟨r1, r2, r3⟩ := right_split hr
  obtain ⟨W0, hW⟩ : ∃ W0, W0 = (((w.alloc (.cells (hrC ⟨A, c, h⟩) 29)).alloc (.cells #[.int .u64 (S : Int), .slice B M.length d] 32)).alloc (.cells #[.slice none 0 0, .int .u64 0, .int .u64 0, .int .u64 0, .int .i64 0, .bool false, .bool false, .int .i64 0] 29)).alloc (.cells #[.int .u64 0, .slice none 0 0] 32) := ⟨_, rfl⟩
  have HE : Hid (Ext w W0) := Lib.hid (by rw [hW]; exact ((((Ext.refl w).alloc _).alloc _).alloc _).alloc _)
  have h1 : Blk W0 w.heap.size 29 (hrC ⟨A, c, h⟩) := by rw [hW]; exact (((Blk.new w _ _).alloc _).alloc _).alloc _
  have h2 : Blk W0 (w.heap.size + 1) 32 #[.int .u64 (S : Int), .slice B M.length d] := by rw [hW]; exact ((blk_at (by simp)).alloc _).alloc _
  have k3 : Blk W0 (w.heap.size + 2) 29 #[.slice none 0 0, .int .u64 0, .int .u64 0, .int .u64 0, .int .i64 0, .bool false, .bool false, .int .i64 0] := by rw [hW]; exact (blk_at (by simp)).alloc _
  have k4 : Blk W0 (w.heap.size + 3) 32 #[.int .u64 0, .slice none 0 0] := by rw [hW]; exact blk_at (by simp)
  have hrow : ∀ W : World, Ext w W → RowV KS W A h.L c := fun W e => hrw.ext e
  have hMm : ∀ W : World, Ext w W → Mem W S B M d := fun W e => hM.ext e
  have hTE : ∀ W : World, Ext w W → Layh W := fun W e => hT.ext e
  have crl := fun W m t => look17_c A h c S B M d a k (sm_fits r2).2.2 hk a1 W m t
  unfold LkT at crl
  have HW := Lib.hid hW
  clear hW
  unfold BrT
  cases hb : brB S M h a
  · obtain ⟨hBM, hBH⟩ := br_no hb
    rw [hb] at crl
    rw [hBM, hBH]
    clear hb hBM hBH
    go_enter Tryz.func8, Tryz.ntmps8
    go_upto_region 1 with fail
    rw [← HW.out]
    clear HW
    go_wp2_with (first | (refine wpList_load_blk (by rfl) 29 _ rfl rfl h1 Tryz.underlying29 rfl (by kernel_rfl) ?_) | (refine wpList_load_blk (by rfl) 32 _ rfl rfl h2 Tryz.underlying32 rfl (by kernel_rfl) ?_))
    refine (crl _ (hMm _ HE.out) (hTE _ HE.out).t).mono ?_
    rintro r5 w' ⟨l, rfl, -, hE⟩
    (try replace hb := hb.ext hE); (try replace h1 := h1.ext hE); (try replace h2 := h2.ext hE); (try replace h5 := h5.ext hE); (try replace k3 := k3.ext hE); (try replace k4 := k4.ext hE); (try replace hM := hM.ext hE); (try replace hN := hN.ext hE); (try replace HE := Lib.hid (HE.out.trans hE)); (try replace r0 := r0.ext hE); (try replace r1 := r1.ext hE); (try replace r2 := r2.ext hE); (try replace r3 := r3.ext hE); (try replace r4 := r4.ext hE); (try replace r5 := r5.ext hE); (try replace r6 := r6.ext hE)
    clear hE crl
    have zz1 : Blk (w'.alloc (.cells #[.int .i64 0, .int .u64 0, .bool false, .bool false, .bool false, .bool false, .bool false, .bool false, .bool false, .bool false, .int .u64 0, .int .u64 0, .int .u64 0] 75)) w'.heap.size 75 #[.int .i64 0, .int .u64 0, .bool false, .bool false, .bool false, .bool false, .bool false, .bool false, .bool false, .bool false, .int .u64 0, .int .u64 0, .int .u64 0] := Blk.new _ _ _; have hE := ((Ext.refl w').alloc (.cells #[.int .i64 0, .int .u64 0, .bool false, .bool false, .bool false, .bool false, .bool false, .bool false, .bool false, .bool false, .int .u64 0, .int .u64 0, .int .u64 0] 75)).row (Nat.le_refl w'.heap.size) (lfC l); (try replace hb := hb.ext hE); (try replace h1 := h1.ext hE); (try replace h2 := h2.ext hE); (try replace h5 := h5.ext hE); (try replace k3 := k3.ext hE); (try replace k4 := k4.ext hE); (try replace hM := hM.ext hE); (try replace hN := hN.ext hE); (try replace HE := Lib.hid (HE.out.trans hE)); clear hE; have h5 := zz1.row (lfC l)
    go_upto_region 2 with ((refine wpList_store_blk rfl 75 _ _ rfl rfl rfl zz1 (lf_info _) (by simp [lfC_size]) (lfC_one _) ?_); clear zz1; generalize (w'.alloc (.cells #[.int .i64 0, .int .u64 0, .bool false, .bool false, .bool false, .bool false, .bool false, .bool false, .bool false, .bool false, .int .u64 0, .int .u64 0, .int .u64 0] 75)).setRow w'.heap.size (lfC l) = X at *)
    (try simp only [Act.put, List.setIfInBounds_toArray, List.set_cons_zero, List.set_cons_succ])
    clear h5
    go_wp2_with fail
    (try replace hb := Blk.drew hb); (try replace h1 := Blk.drew h1); (try replace h2 := Blk.drew h2); (try replace h5 := Blk.drew h5); (try replace k3 := Blk.drew k3); (try replace k4 := Blk.drew k4); replace HE := Lib.hid HE.out.drew
    refine wp_region_seq [(0, false), (1, false), (2, true), (3, true)] (Gap (w.heap.size + 2) (w.heap.size + 4)) (by kernel_rfl) (by kernel_rfl) (Gap.refl _ _) (fun _ _ _ => Gap.trans) ?_; simp only [List.map, nth_z, nth_s]
    (repeat (first | (refine seq_skip (by rfl) ?_; intro K hK; simp only [Act.put, List.setIfInBounds_toArray, List.set_cons_zero, List.set_cons_succ]; refine hK _ ?_; clear hK K) | (refine seq_skipc (by rfl) ?_; intro K hK; simp only [Act.put, List.setIfInBounds_toArray, List.set_cons_zero, List.set_cons_succ]; refine hK _ ?_; clear hK K) | (refine seq_read (by rfl) (by rfl) ?_; intro K hK; go_big_quiet_op; first | go_big_quiet_on | (refine ⟨_, fun _ _ => rfl, ?_⟩; go_big_quiet_on)) | (refine seq_nil rfl rfl (by rfl) ?_; intro K hK; simp only [Act.put, List.setIfInBounds_toArray, List.set_cons_zero, List.set_cons_succ]; refine hK _ ?_; clear hK K)))
    refine seq_load rfl rfl (fun x hx => Gap.blk hx (h1) (by omega)) rfl Tryz.underlying29 (hr_info _) (by rfl) ?_; intro K hK; simp only [Act.put, List.setIfInBounds_toArray, List.set_cons_zero, List.set_cons_succ]; refine hK _ ?_; clear hK K
    (repeat (first | (refine seq_skip (by rfl) ?_; intro K hK; simp only [Act.put, List.setIfInBounds_toArray, List.set_cons_zero, List.set_cons_succ]; refine hK _ ?_; clear hK K) | (refine seq_skipc (by rfl) ?_; intro K hK; simp only [Act.put, List.setIfInBounds_toArray, List.set_cons_zero, List.set_cons_succ]; refine hK _ ?_; clear hK K) | (refine seq_read (by rfl) (by rfl) ?_; intro K hK; go_big_quiet_op; first | go_big_quiet_on | (refine ⟨_, fun _ _ => rfl, ?_⟩; go_big_quiet_on)) | (refine seq_nil rfl rfl (by rfl) ?_; intro K hK; simp only [Act.put, List.setIfInBounds_toArray, List.set_cons_zero, List.set_cons_succ]; refine hK _ ?_; clear hK K)))
    refine seq_load rfl rfl (fun x hx => Gap.blk hx (h2) (by omega)) rfl Tryz.underlying32 (me_info _ _ _ _) (by rfl) ?_; intro K hK; simp only [Act.put, List.setIfInBounds_toArray, List.set_cons_zero, List.set_cons_succ]; refine hK _ ?_; clear hK K
    (repeat (first | (refine seq_skip (by rfl) ?_; intro K hK; simp only [Act.put, List.setIfInBounds_toArray, List.set_cons_zero, List.set_cons_succ]; refine hK _ ?_; clear hK K) | (refine seq_skipc (by rfl) ?_; intro K hK; simp only [Act.put, List.setIfInBounds_toArray, List.set_cons_zero, List.set_cons_succ]; refine hK _ ?_; clear hK K) | (refine seq_read (by rfl) (by rfl) ?_; intro K hK; go_big_quiet_op; first | go_big_quiet_on | (refine ⟨_, fun _ _ => rfl, ?_⟩; go_big_quiet_on)) | (refine seq_nil rfl rfl (by rfl) ?_; intro K hK; simp only [Act.put, List.setIfInBounds_toArray, List.set_cons_zero, List.set_cons_succ]; refine hK _ ?_; clear hK K)))
    refine seq_store_row rfl rfl rfl (k3) (hr_info _) (by simp [hrC_size]) (hrC_one _) (by rfl) (Gap.row _ (by omega) (by omega) _) ?_; intro K hK; simp only [Act.put, List.setIfInBounds_toArray, List.set_cons_zero, List.set_cons_succ]; refine hK _ _ ?_; clear hK K
    refine seq_store_row rfl rfl rfl ((k4.apart (by omega) _)) (by kernel_rfl) (by rfl) (by simp [Value.oneCell']) (by rfl) (Gap.row _ (by omega) (by omega) _) ?_; intro K hK; simp only [Act.put, List.setIfInBounds_toArray, List.set_cons_zero, List.set_cons_succ]; refine hK _ _ ?_; clear hK K
    refine seq_done ?_
    go_wp2
    (try simp only [Exit.inBlock, Exit.then]); (try rw [Exit.noGoto_ret]); refine bodyPost_ret (results_cc rfl _ _ rfl rfl (((k3.row _).apart (by omega) _)) (((k4.apart (by omega) _).row _)) Tryz.underlying29 rfl (by first | exact hr_info _ | kernel_rfl) Tryz.underlying32 rfl (by first | exact me_info _ | kernel_rfl)) rfl ?_
    exact ⟨A, B, c, d, rfl, ((hrow _ HE.out).set k3 (by decide) _).set (k4.apart (by omega) _) (by decide) _, ((hMm _ HE.out).set ((hM.out (w.heap.size + 4)).one (by omega) (by omega)) _).set ((hM.out (w.heap.size + 4)).one (by omega) (by omega)) _, (HE.out.row (by omega) _).row (by omega) _, fun _ _ _ h0 => h0⟩
  have BB := brings hM.rl a1 (sm_fits r2).2.1 hb
  rw [hb] at crl
  obtain ⟨-, -, hBM, hBH⟩ := br_yes hb
  have hBF : brF S M h a = { (lookN S M h.sp.pp a).lf with pt := usedP (lookN S M h.sp.pp a).lf.pt false } := by unfold brF; rfl
  have y1 := BB.lf.al
  have y2 := BB.lf.lt
  have y3 := (leaf_g BB.lf).2.1
  have y4 : 0 ≤ (brF S M h a).lv ∧ (brF S M h a).lv ≤ 2 := by rw [hBF, upd_lv]; exact ⟨BB.lf.l0, BB.lf.l2⟩
  have y5 := BB.may
  have y6 := BB.v
  have crm := fun W m => mark_c (w := W) (S := S) (A := B) (L := M) (c := d) m (by omega) (lookN S M h.sp.pp a).lf y1 y2 false
  unfold Marked at crm
  rw [← hBF, ← hBM] at crm
  have EH := Lib.hid hBH
  clear hBF hBM hBH BB hb y1 y2 y3
  generalize brM S M h a = K at *
  generalize brF S M h a = F at *
  generalize (lookN S M h.sp.pp a).lf = l0 at *
  have cof := fun W t => of12_c F y4.1 y4.2 a h.sp.ai a1 W t
  have cpt := fun W r t => put17_any A h.L c (ofE F a h.sp.ai) h.vi r1 y5 y6 W r t
  unfold TlbR at cpt
  generalize ofE F a h.sp.ai = en at *
  clear y4 y5 y6
  go_enter Tryz.func8, Tryz.ntmps8
  go_upto_region 1 with fail
  rw [← HW.out]
  clear HW
  go_wp2_with (first | (refine wpList_load_blk (by rfl) 29 _ rfl rfl h1 Tryz.underlying29 rfl (by kernel_rfl) ?_) | (refine wpList_load_blk (by rfl) 32 _ rfl rfl h2 Tryz.underlying32 rfl (by kernel_rfl) ?_))
  refine (crl _ (hMm _ HE.out) (hTE _ HE.out).t).mono ?_
  rintro r5 w' ⟨l, rfl, hl, hE⟩
  obtain rfl := hl trivial
  (try replace hb := hb.ext hE); (try replace h1 := h1.ext hE); (try replace h2 := h2.ext hE); (try replace h5 := h5.ext hE); (try replace k3 := k3.ext hE); (try replace k4 := k4.ext hE); (try replace hM := hM.ext hE); (try replace hN := hN.ext hE); (try replace HE := Lib.hid (HE.out.trans hE)); (try replace r0 := r0.ext hE); (try replace r1 := r1.ext hE); (try replace r2 := r2.ext hE); (try replace r3 := r3.ext hE); (try replace r4 := r4.ext hE); (try replace r5 := r5.ext hE); (try replace r6 := r6.ext hE)
  clear hE crl
  have hg3 := k4.lt
  have zz1 : Blk (w'.alloc (.cells #[.int .i64 0, .int .u64 0, .bool false, .bool false, .bool false, .bool false, .bool false, .bool false, .bool false, .bool false, .int .u64 0, .int .u64 0, .int .u64 0] 75)) w'.heap.size 75 #[.int .i64 0, .int .u64 0, .bool false, .bool false, .bool false, .bool false, .bool false, .bool false, .bool false, .bool false, .int .u64 0, .int .u64 0, .int .u64 0] := Blk.new _ _ _; have hE := ((Ext.refl w').alloc (.cells #[.int .i64 0, .int .u64 0, .bool false, .bool false, .bool false, .bool false, .bool false, .bool false, .bool false, .bool false, .int .u64 0, .int .u64 0, .int .u64 0] 75)).row (Nat.le_refl w'.heap.size) (lfC l); (try replace hb := hb.ext hE); (try replace h1 := h1.ext hE); (try replace h2 := h2.ext hE); (try replace h5 := h5.ext hE); (try replace k3 := k3.ext hE); (try replace k4 := k4.ext hE); (try replace hM := hM.ext hE); (try replace hN := hN.ext hE); (try replace HE := Lib.hid (HE.out.trans hE)); clear hE; have h5 := zz1.row (lfC l)
  go_upto_region 2 with ((refine wpList_store_blk rfl 75 _ _ rfl rfl rfl zz1 (lf_info _) (by simp [lfC_size]) (lfC_one _) ?_); clear zz1; generalize (w'.alloc (.cells #[.int .i64 0, .int .u64 0, .bool false, .bool false, .bool false, .bool false, .bool false, .bool false, .bool false, .bool false, .int .u64 0, .int .u64 0, .int .u64 0] 75)).setRow w'.heap.size (lfC l) = X at *)
  (try simp only [Act.put, List.setIfInBounds_toArray, List.set_cons_zero, List.set_cons_succ])
  generalize w'.heap.size = g5 at *
  go_wp2_with (first | (refine wpList_load_blk (by rfl) 32 _ rfl rfl h2 Tryz.underlying32 rfl (by kernel_rfl) ?_) | (refine wpList_load_blk (by rfl) 75 _ rfl rfl h5 Tryz.underlying75 rfl (by kernel_rfl) ?_))
  have hs0 := k4.lt
  have hg5 := h5.lt
  refine (crm _ (hMm _ HE.out)).mono ?_
  rintro r6 w6 ⟨B2, d2, rfl, hN, ho2, hE⟩
  have hout : Out w.heap.size (g5 + 1) B2 K.length := ho2 _ _ hg5 (hM.out _)
  have hol : ∀ lo hi, hi ≤ w.heap.size → Out lo hi B M.length → Out lo hi B2 K.length := fun lo hi hh h0 => ho2 lo hi (by omega) h0
  (try replace hb := hb.ext hE); (try replace h1 := h1.ext hE); (try replace h2 := h2.ext hE); (try replace h5 := h5.ext hE); (try replace k3 := k3.ext hE); (try replace k4 := k4.ext hE); (try replace hM := hM.ext hE); (try replace hN := hN.ext hE); (try replace HE := Lib.hid (HE.out.trans hE)); (try replace r0 := r0.ext hE); (try replace r1 := r1.ext hE); (try replace r2 := r2.ext hE); (try replace r3 := r3.ext hE); (try replace r4 := r4.ext hE); (try replace r5 := r5.ext hE); (try replace r6 := r6.ext hE)
  clear hE ho2 crm hg5
  have zz1 := h2
  have zz2 := h5.apart (show g5 ≠ w.heap.size + 1 by omega) #[.int .u64 (S : Int), .slice B2 K.length d2]
  replace h1 := (h1.apart (show w.heap.size ≠ w.heap.size + 1 by omega) #[.int .u64 (S : Int), .slice B2 K.length d2]).apart (show w.heap.size ≠ g5 by omega) (lfC F)
  replace k3 := (k3.apart (show w.heap.size + 2 ≠ w.heap.size + 1 by omega) #[.int .u64 (S : Int), .slice B2 K.length d2]).apart (show w.heap.size + 2 ≠ g5 by omega) (lfC F)
  replace k4 := (k4.apart (show w.heap.size + 3 ≠ w.heap.size + 1 by omega) #[.int .u64 (S : Int), .slice B2 K.length d2]).apart (show w.heap.size + 3 ≠ g5 by omega) (lfC F)
  replace h2 := (h2.row #[.int .u64 (S : Int), .slice B2 K.length d2]).apart (show w.heap.size + 1 ≠ g5 by omega) (lfC F)
  replace h5 := zz2.row (lfC F)
  replace hN := (hN.set (hout.one (Nat.le_succ _) (by omega)) #[.int .u64 (S : Int), .slice B2 K.length d2]).set (hout.one (by omega) (Nat.lt_succ_self _)) (lfC F)
  replace HE := Lib.hid ((HE.out.row (Nat.le_succ _) #[.int .u64 (S : Int), .slice B2 K.length d2]).row (show w.heap.size ≤ g5 by omega) (lfC F))
  go_upto_region 5 with (first | (refine wpList_store_blk rfl 32 _ _ rfl rfl rfl zz1 (by kernel_rfl) (by rfl) (by simp [Value.oneCell']) ?_) | ((refine wpList_store_blk rfl 75 _ _ rfl rfl rfl zz2 (lf_info _) (by simp [lfC_size]) (lfC_one _) ?_); clear zz1 zz2; generalize (w6.setRow (w.heap.size + 1) #[.int .u64 (S : Int), .slice B2 K.length d2]).setRow g5 (lfC F) = X2 at *))
  (try simp only [Act.put, List.setIfInBounds_toArray, List.set_cons_zero, List.set_cons_succ])
  have hrX : ∀ W : World, Ext X2 W → RowV KS W A h.L c := fun W e => hrow W (HE.out.trans e)
  have hTX : ∀ W : World, Ext X2 W → Layh W := fun W e => hTE W (HE.out.trans e)
  have HW := HE
  clear HE
  have HE := Lib.hid (Ext.refl X2)
  have hn2 := h1.lt
  go_cut [] from 30 to 42 (fun wx => ∃ A6 c6, Hid (Blk wx w.heap.size 29 (hrC ⟨A6, c6, { h with L := putT en h.vi h.L }⟩)) ∧ Hid (RowV KS wx A6 (putT en h.vi h.L) c6) ∧ Only w.heap.size X2 wx)
  case first =>
    go_wp2_with fail
    (try replace hb := Blk.drew hb); (try replace h1 := Blk.drew h1); (try replace h2 := Blk.drew h2); (try replace h5 := Blk.drew h5); (try replace k3 := Blk.drew k3); (try replace k4 := Blk.drew k4); replace HE := Lib.hid HE.out.drew
    refine wp_region_fork [(0, false), (2, false), (3, false), (4, false), (5, false), (6, false), (8, false), (9, false)] 1 [(7, true), (10, true), (11, false), (12, true)] 7 [(1, true), (10, true), (11, false), (12, true)] (Save w.heap.size 0 1) (by kernel_rfl) (by kernel_rfl) (Save.refl _ _ _) (fun _ _ _ => Save.trans) ?_
    simp only [List.map, nth_z, nth_s]
    (repeat (first | (refine seq_skip (by rfl) ?_; intro K hK; simp only [Act.put, List.setIfInBounds_toArray, List.set_cons_zero, List.set_cons_succ]; refine hK _ ?_; clear hK K) | (refine seq_skipc (by rfl) ?_; intro K hK; simp only [Act.put, List.setIfInBounds_toArray, List.set_cons_zero, List.set_cons_succ]; refine hK _ ?_; clear hK K) | (refine seq_read (by rfl) (by rfl) ?_; intro K hK; go_big_quiet_op; first | go_big_quiet_on | (refine ⟨_, fun _ _ => rfl, ?_⟩; go_big_quiet_on)) | (refine seq_nil rfl rfl (by rfl) ?_; intro K hK; simp only [Act.put, List.setIfInBounds_toArray, List.set_cons_zero, List.set_cons_succ]; refine hK _ ?_; clear hK K)))
    refine seq_load rfl rfl (fun y hx => Save.blk hx h5 (by omega)) rfl Tryz.underlying75 (lf_info _) (by rfl) ?_
    intro K hK; simp only [Act.put, List.setIfInBounds_toArray, List.set_cons_zero, List.set_cons_succ]; refine hK _ ?_; clear hK K
    (repeat (first | (refine seq_skip (by rfl) ?_; intro K hK; simp only [Act.put, List.setIfInBounds_toArray, List.set_cons_zero, List.set_cons_succ]; refine hK _ ?_; clear hK K) | (refine seq_skipc (by rfl) ?_; intro K hK; simp only [Act.put, List.setIfInBounds_toArray, List.set_cons_zero, List.set_cons_succ]; refine hK _ ?_; clear hK K) | (refine seq_read (by rfl) (by rfl) ?_; intro K hK; go_big_quiet_op; first | go_big_quiet_on | (refine ⟨_, fun _ _ => rfl, ?_⟩; go_big_quiet_on)) | (refine seq_nil rfl rfl (by rfl) ?_; intro K hK; simp only [Act.put, List.setIfInBounds_toArray, List.set_cons_zero, List.set_cons_succ]; refine hK _ ?_; clear hK K)))
    refine seq_value (.int .u64 (h.sp.ai : Int)) (by rfl) (fun x hx => by have hq := (hx.cell h1 (by omega) h1.hr.ai); simp [go_sem, execOp, Act.eval, hq]) ?_; intro K hK; simp only [Act.put, List.setIfInBounds_toArray, List.set_cons_zero, List.set_cons_succ]; refine hK _ ?_; clear hK K
    (repeat (first | (refine seq_skip (by rfl) ?_; intro K hK; simp only [Act.put, List.setIfInBounds_toArray, List.set_cons_zero, List.set_cons_succ]; refine hK _ ?_; clear hK K) | (refine seq_skipc (by rfl) ?_; intro K hK; simp only [Act.put, List.setIfInBounds_toArray, List.set_cons_zero, List.set_cons_succ]; refine hK _ ?_; clear hK K) | (refine seq_read (by rfl) (by rfl) ?_; intro K hK; go_big_quiet_op; first | go_big_quiet_on | (refine ⟨_, fun _ _ => rfl, ?_⟩; go_big_quiet_on)) | (refine seq_nil rfl rfl (by rfl) ?_; intro K hK; simp only [Act.put, List.setIfInBounds_toArray, List.set_cons_zero, List.set_cons_succ]; refine hK _ ?_; clear hK K)))
    refine seq_value (.int .i64 h.vi) (by rfl) (fun x hx => by have hq := (hx.cell h1 (by omega) h1.hr.vi); simp [go_sem, execOp, Act.eval, hq]) ?_; intro K hK; simp only [Act.put, List.setIfInBounds_toArray, List.set_cons_zero, List.set_cons_succ]; refine hK _ ?_; clear hK K
    (repeat (first | (refine seq_skip (by rfl) ?_; intro K hK; simp only [Act.put, List.setIfInBounds_toArray, List.set_cons_zero, List.set_cons_succ]; refine hK _ ?_; clear hK K) | (refine seq_skipc (by rfl) ?_; intro K hK; simp only [Act.put, List.setIfInBounds_toArray, List.set_cons_zero, List.set_cons_succ]; refine hK _ ?_; clear hK K) | (refine seq_read (by rfl) (by rfl) ?_; intro K hK; go_big_quiet_op; first | go_big_quiet_on | (refine ⟨_, fun _ _ => rfl, ?_⟩; go_big_quiet_on)) | (refine seq_nil rfl rfl (by rfl) ?_; intro K hK; simp only [Act.put, List.setIfInBounds_toArray, List.set_cons_zero, List.set_cons_succ]; refine hK _ ?_; clear hK K)))
    refine seq_done ?_
    refine ⟨?_, ?_⟩
    · skip
      refine seq_part_now rfl rfl (h1) (hrC_tlb A c h) rfl Tryz.underlying24 (tb_info _) (by rfl) ((Save.refl _ _ _ _)) ?_; intro K hK; simp only [Act.put, List.setIfInBounds_toArray, List.set_cons_zero, List.set_cons_succ]; refine hK _ _ ?_; clear hK K
      refine seq_call (cof _ (hTX _ HE.out).t.1) rfl Tryz.func29 (by kernel_rfl) (by kernel_rfl) (by rfl) (by rfl) ?_; intro K hK; rintro e w' ⟨rfl, hE⟩; refine ⟨_, rfl, (Save.ext hE), ?_⟩; simp only [Act.put, List.setIfInBounds_toArray, List.set_cons_zero, List.set_cons_succ]; refine hK _ _ ?_; clear hK K
      replace h1 := h1.ext hE
      replace HE := Lib.hid (HE.out.trans hE)
      clear hE
      refine seq_call (cpt _ (hrX _ HE.out) (hTX _ HE.out).s) rfl Tryz.func28 (by kernel_rfl) (by kernel_rfl) (by rfl) (by rfl) ?_; intro K hK; rintro e w' ⟨A6, c6, rfl, hr6, hE⟩; refine ⟨_, rfl, (Save.ext hE), ?_⟩; simp only [Act.put, List.setIfInBounds_toArray, List.set_cons_zero, List.set_cons_succ]; refine hK _ _ ?_; clear hK K
      replace h1 := h1.ext hE
      replace HE := Lib.hid (HE.out.trans hE)
      clear hE
      (repeat (first | (refine seq_skip (by rfl) ?_; intro K hK; simp only [Act.put, List.setIfInBounds_toArray, List.set_cons_zero, List.set_cons_succ]; refine hK _ ?_; clear hK K) | (refine seq_skipc (by rfl) ?_; intro K hK; simp only [Act.put, List.setIfInBounds_toArray, List.set_cons_zero, List.set_cons_succ]; refine hK _ ?_; clear hK K) | (refine seq_read (by rfl) (by rfl) ?_; intro K hK; go_big_quiet_op; first | go_big_quiet_on | (refine ⟨_, fun _ _ => rfl, ?_⟩; go_big_quiet_on)) | (refine seq_nil rfl rfl (by rfl) ?_; intro K hK; simp only [Act.put, List.setIfInBounds_toArray, List.set_cons_zero, List.set_cons_succ]; refine hK _ ?_; clear hK K)))
      have h1k := h1
      refine seq_store_part rfl rfl rfl (h1k) ((by rw [hrC_size]; show 0 + 1 ≤ 8; decide)) ((hrC_put0 A A6 c c6 h (L := putT en h.vi h.L) rfl)) ((tb_info _)) ((tbx_one _ _ _)) (by rfl) ((Save.row h1k (fun i hi => by rw [← hrC_put0 A A6 c c6 h (L := putT en h.vi h.L) rfl]; exact putAt_out i _ _ _ hi))) ?_; intro K hK; simp only [Act.put, List.setIfInBounds_toArray, List.set_cons_zero, List.set_cons_succ]; refine hK _ _ ?_; clear hK K
      refine seq_done ?_
      go_wp2_with fail
      go_meet
      case rel => exact ⟨A6, c6, Lib.hid (h1.row _), Lib.hid (hr6.set h1 (by rw [hrC_size]; decide) _), (Only.ext (Nat.le_of_lt hn2) HE.out).trans (Only.row _ w.heap.size _)⟩
    · skip
      refine seq_call (cof _ (hTX _ HE.out).t.1) rfl Tryz.func29 (by kernel_rfl) (by kernel_rfl) (by rfl) (by rfl) ?_; intro K hK; rintro e w' ⟨rfl, hE⟩; refine ⟨_, rfl, (Save.ext hE), ?_⟩; simp only [Act.put, List.setIfInBounds_toArray, List.set_cons_zero, List.set_cons_succ]; refine hK _ _ ?_; clear hK K
      replace h1 := h1.ext hE
      replace HE := Lib.hid (HE.out.trans hE)
      clear hE
      refine seq_part_now rfl rfl (h1) (hrC_tlb A c h) rfl Tryz.underlying24 (tb_info _) (by rfl) ((Save.refl _ _ _ _)) ?_; intro K hK; simp only [Act.put, List.setIfInBounds_toArray, List.set_cons_zero, List.set_cons_succ]; refine hK _ _ ?_; clear hK K
      refine seq_call (cpt _ (hrX _ HE.out) (hTX _ HE.out).s) rfl Tryz.func28 (by kernel_rfl) (by kernel_rfl) (by rfl) (by rfl) ?_; intro K hK; rintro e w' ⟨A6, c6, rfl, hr6, hE⟩; refine ⟨_, rfl, (Save.ext hE), ?_⟩; simp only [Act.put, List.setIfInBounds_toArray, List.set_cons_zero, List.set_cons_succ]; refine hK _ _ ?_; clear hK K
      replace h1 := h1.ext hE
      replace HE := Lib.hid (HE.out.trans hE)
      clear hE
      (repeat (first | (refine seq_skip (by rfl) ?_; intro K hK; simp only [Act.put, List.setIfInBounds_toArray, List.set_cons_zero, List.set_cons_succ]; refine hK _ ?_; clear hK K) | (refine seq_skipc (by rfl) ?_; intro K hK; simp only [Act.put, List.setIfInBounds_toArray, List.set_cons_zero, List.set_cons_succ]; refine hK _ ?_; clear hK K) | (refine seq_read (by rfl) (by rfl) ?_; intro K hK; go_big_quiet_op; first | go_big_quiet_on | (refine ⟨_, fun _ _ => rfl, ?_⟩; go_big_quiet_on)) | (refine seq_nil rfl rfl (by rfl) ?_; intro K hK; simp only [Act.put, List.setIfInBounds_toArray, List.set_cons_zero, List.set_cons_succ]; refine hK _ ?_; clear hK K)))
      have h1k := h1
      refine seq_store_part rfl rfl rfl (h1k) ((by rw [hrC_size]; show 0 + 1 ≤ 8; decide)) ((hrC_put0 A A6 c c6 h (L := putT en h.vi h.L) rfl)) ((tb_info _)) ((tbx_one _ _ _)) (by rfl) ((Save.row h1k (fun i hi => by rw [← hrC_put0 A A6 c c6 h (L := putT en h.vi h.L) rfl]; exact putAt_out i _ _ _ hi))) ?_; intro K hK; simp only [Act.put, List.setIfInBounds_toArray, List.set_cons_zero, List.set_cons_succ]; refine hK _ _ ?_; clear hK K
      refine seq_done ?_
      go_wp2_with fail
      go_meet
      case rel => exact ⟨A6, c6, Lib.hid (h1.row _), Lib.hid (hr6.set h1 (by rw [hrC_size]; decide) _), (Only.ext (Nat.le_of_lt hn2) HE.out).trans (Only.row _ w.heap.size _)⟩
  case rest =>
    obtain ⟨A6, c6, hb6, hr6, hO6⟩ := hcut
    clear h1 h5 cof cpt hrX hTX HE
    have h1 := hb6.out
    replace k3 := hO6.blk k3 (show w.heap.size + 2 ≠ w.heap.size by omega)
    replace k4 := hO6.blk k4 (show w.heap.size + 3 ≠ w.heap.size by omega)
    replace h2 := hO6.blk h2 (show w.heap.size + 1 ≠ w.heap.size by omega)
    replace hN := hN.only (hout.one (by omega) (by omega)) hO6
    replace hr6 := hr6.out
    replace HE := Lib.hid (hO6.outer HW.out (Nat.le_refl _))
    clear hb6 hO6 HW
    have h1k := h1
    replace hN := hN.set (hout.one (Nat.le_refl _) (by omega)) (hrC ⟨A6, c6, brH S M h a⟩)
    replace hr6 := hr6.set h1 (by rw [hrC_size]; decide) (hrC ⟨A6, c6, brH S M h a⟩)
    replace k3 := k3.apart (show w.heap.size + 2 ≠ w.heap.size by omega) (hrC ⟨A6, c6, brH S M h a⟩)
    replace k4 := k4.apart (show w.heap.size + 3 ≠ w.heap.size by omega) (hrC ⟨A6, c6, brH S M h a⟩)
    replace h2 := h2.apart (show w.heap.size + 1 ≠ w.heap.size by omega) (hrC ⟨A6, c6, brH S M h a⟩)
    replace HE := Lib.hid (HE.out.row (Nat.le_refl _) (hrC ⟨A6, c6, brH S M h a⟩))
    replace h1 := h1.row (hrC ⟨A6, c6, brH S M h a⟩)
    have hset : (hrC ⟨A6, c6, { h with L := putT en h.vi h.L }⟩).setIfInBounds 7 (.int .i64 (-1)) = hrC ⟨A6, c6, brH S M h a⟩ := by rw [EH.out]; exact hrC_set7 A6 c6 { h with L := putT en h.vi h.L } (-1)
    go_upto_region 7 with (refine wpList_store_cell rfl 3 _ _ rfl rfl rfl h1k (by simp [hrC_size]) (hset) (by kernel_rfl) rfl rfl ?_)
    (try simp only [Act.put, List.setIfInBounds_toArray, List.set_cons_zero, List.set_cons_succ])
    clear h1k hset
    rw [show putT en h.vi h.L = (brH S M h a).L by rw [EH.out]] at hr6
    clear EH
    generalize wc.setRow w.heap.size (hrC ⟨A6, c6, brH S M h a⟩) = W8 at *
    (try replace hb := Blk.drew hb); (try replace h1 := Blk.drew h1); (try replace h2 := Blk.drew h2); (try replace h5 := Blk.drew h5); (try replace k3 := Blk.drew k3); (try replace k4 := Blk.drew k4); replace HE := Lib.hid HE.out.drew
    refine wp_region_seq [(0, false), (1, false), (2, true), (3, true)] (Gap (w.heap.size + 2) (w.heap.size + 4)) (by kernel_rfl) (by kernel_rfl) (Gap.refl _ _) (fun _ _ _ => Gap.trans) ?_; simp only [List.map, nth_z, nth_s]
    (repeat (first | (refine seq_skip (by rfl) ?_; intro K hK; simp only [Act.put, List.setIfInBounds_toArray, List.set_cons_zero, List.set_cons_succ]; refine hK _ ?_; clear hK K) | (refine seq_skipc (by rfl) ?_; intro K hK; simp only [Act.put, List.setIfInBounds_toArray, List.set_cons_zero, List.set_cons_succ]; refine hK _ ?_; clear hK K) | (refine seq_read (by rfl) (by rfl) ?_; intro K hK; go_big_quiet_op; first | go_big_quiet_on | (refine ⟨_, fun _ _ => rfl, ?_⟩; go_big_quiet_on)) | (refine seq_nil rfl rfl (by rfl) ?_; intro K hK; simp only [Act.put, List.setIfInBounds_toArray, List.set_cons_zero, List.set_cons_succ]; refine hK _ ?_; clear hK K)))
    refine seq_load rfl rfl (fun x hx => Gap.blk hx (h1) (by omega)) rfl Tryz.underlying29 (hr_info _) (by rfl) ?_; intro K hK; simp only [Act.put, List.setIfInBounds_toArray, List.set_cons_zero, List.set_cons_succ]; refine hK _ ?_; clear hK K
    (repeat (first | (refine seq_skip (by rfl) ?_; intro K hK; simp only [Act.put, List.setIfInBounds_toArray, List.set_cons_zero, List.set_cons_succ]; refine hK _ ?_; clear hK K) | (refine seq_skipc (by rfl) ?_; intro K hK; simp only [Act.put, List.setIfInBounds_toArray, List.set_cons_zero, List.set_cons_succ]; refine hK _ ?_; clear hK K) | (refine seq_read (by rfl) (by rfl) ?_; intro K hK; go_big_quiet_op; first | go_big_quiet_on | (refine ⟨_, fun _ _ => rfl, ?_⟩; go_big_quiet_on)) | (refine seq_nil rfl rfl (by rfl) ?_; intro K hK; simp only [Act.put, List.setIfInBounds_toArray, List.set_cons_zero, List.set_cons_succ]; refine hK _ ?_; clear hK K)))
    refine seq_load rfl rfl (fun x hx => Gap.blk hx (h2) (by omega)) rfl Tryz.underlying32 (me_info _ _ _ _) (by rfl) ?_; intro K hK; simp only [Act.put, List.setIfInBounds_toArray, List.set_cons_zero, List.set_cons_succ]; refine hK _ ?_; clear hK K
    (repeat (first | (refine seq_skip (by rfl) ?_; intro K hK; simp only [Act.put, List.setIfInBounds_toArray, List.set_cons_zero, List.set_cons_succ]; refine hK _ ?_; clear hK K) | (refine seq_skipc (by rfl) ?_; intro K hK; simp only [Act.put, List.setIfInBounds_toArray, List.set_cons_zero, List.set_cons_succ]; refine hK _ ?_; clear hK K) | (refine seq_read (by rfl) (by rfl) ?_; intro K hK; go_big_quiet_op; first | go_big_quiet_on | (refine ⟨_, fun _ _ => rfl, ?_⟩; go_big_quiet_on)) | (refine seq_nil rfl rfl (by rfl) ?_; intro K hK; simp only [Act.put, List.setIfInBounds_toArray, List.set_cons_zero, List.set_cons_succ]; refine hK _ ?_; clear hK K)))
    refine seq_store_row rfl rfl rfl (k3) (hr_info _) (by simp [hrC_size]) (hrC_one _) (by rfl) (Gap.row _ (by omega) (by omega) _) ?_; intro K hK; simp only [Act.put, List.setIfInBounds_toArray, List.set_cons_zero, List.set_cons_succ]; refine hK _ _ ?_; clear hK K
    refine seq_store_row rfl rfl rfl ((k4.apart (by omega) _)) (by kernel_rfl) (by rfl) (by simp [Value.oneCell']) (by rfl) (Gap.row _ (by omega) (by omega) _) ?_; intro K hK; simp only [Act.put, List.setIfInBounds_toArray, List.set_cons_zero, List.set_cons_succ]; refine hK _ _ ?_; clear hK K
    refine seq_done ?_
    go_wp2
    (try simp only [Exit.inBlock, Exit.then]); (try rw [Exit.noGoto_ret]); refine bodyPost_ret (results_cc rfl _ _ rfl rfl (((k3.row _).apart (by omega) _)) (((k4.apart (by omega) _).row _)) Tryz.underlying29 rfl (by first | exact hr_info _ | kernel_rfl) Tryz.underlying32 rfl (by first | exact me_info _ | kernel_rfl)) rfl ?_
    replace hr6 := hr6.ext (Ext.refl _).drew
    replace hN := hN.ext (Ext.refl _).drew
    exact ⟨A6, B2, c6, d2, rfl, (hr6.set k3 (by decide) _).set (k4.apart (by omega) _) (by decide) _, (hN.set (hout.one (by omega) (by omega)) _).set (hout.one (by omega) (by omega)) _, (HE.out.row (by omega) _).row (by omega) _, hol⟩
theorem advC17 : AdvC :=
  ⟨fun A h c S B M d a k w hr _ hk a1 hrw hM hf hT => bring17_c A h c S B M d a k hr hk a1 w hrw hM hf hT,
   fun A h c i v w hr _ _ hrw hT => evict17_c A h c i v (right_split hr).1 w hrw hT,
   fun A h c y w _ => pick17_c A h c y w⟩
end Go.Proofs.YtlhoedpencmikaaGreatDoor
