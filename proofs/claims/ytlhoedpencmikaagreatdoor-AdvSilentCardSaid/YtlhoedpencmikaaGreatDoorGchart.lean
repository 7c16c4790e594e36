/- Package hart: Way, Right. -/
import Derived.Test.YtlhoedpencmikaaGreatDoorGax
import Derived.Test.YtlhoedpencmikaaGreatDoorRhart
import Derived.Test.YtlhoedpencmikaaGreatDoorGctlb
import Derived.Test.YtlhoedpencmikaaGreatDoorGeight
import Derived.Test.YtlhoedpencmikaaGreatDoorGseven
import Derived.Test.YtlhoedpencmikaaGreatDoorGcten
import Derived.Test.YtlhoedpencmikaaGreatDoorGrme
import Derived.Test.YtlhoedpencmikaaGreatDoorInvc
import Derived.Test.YtlhoedpencmikaaGreatDoorGrten
import Derived.Test.YtlhoedpencmikaaGreatDoorMhartg
namespace Go.Proofs.YtlhoedpencmikaaGreatDoor
open Go.ChangeShapes Go.WideShapes Go.ChangeAt Go.RowKit
set_option linter.unusedVariables false
set_option linter.unusedSimpArgs false
set_option maxRecDepth 10000

/-- the tables that the program lays: va's sizes, plru's touches, cause's causes -/
structure Layh (w : World) : Prop where
  s : Lays w
  t : Lay w
theorem Layh.ext {w w' : World} (h : Layh w) (hE : Ext w w') : Layh w' := ⟨h.s.ext hE, h.t.ext hE⟩
theorem way_lit (h : Hr) (k : Nat) : wayH h k = ⟨(k : Int), h.pr, h.su, h.mx⟩ := by unfold wayH; rfl
theorem way_c (h : Hr) (k : Nat) : wyC (wayH h k) = #[.int .i64 (k : Int), .int .i64 h.pr, .bool h.su, .bool h.mx] := by rw [way_lit, wyC_def]
theorem way16_c (A : Option Addr) (h : Hr) (c k : Nat) (w : World) :
    Calls Tryz.prog 42 #[.agg (hrC ⟨A, c, h⟩), .int .i64 (k : Int)] w fun r w' => r = .returned (.agg (wyC (wayH h k))) ∧ Ext w w' := by
  have h1 : Blk ((w.alloc (.cells (hrC ⟨A, c, h⟩) 29)).alloc (.cells #[.int .i64 0, .int .i64 0, .bool false, .bool false] 95)) w.heap.size 29 (hrC ⟨A, c, h⟩) := (Blk.new w _ _).alloc _
  have h2 : Blk ((w.alloc (.cells (hrC ⟨A, c, h⟩) 29)).alloc (.cells #[.int .i64 0, .int .i64 0, .bool false, .bool false] 95)) (w.heap.size + 1) 95 #[.int .i64 0, .int .i64 0, .bool false, .bool false] := blk_at (by simp)
  have HE := Lib.hid (((Ext.refl w).alloc (.cells (hrC ⟨A, c, h⟩) 29)).alloc (.cells #[.int .i64 0, .int .i64 0, .bool false, .bool false] 95))
  have x4 := h1.hr.pr
  have x5 := h1.hr.su
  have x6 := h1.hr.mx
  rw [way_c]
  go_enter Tryz.func42, Tryz.ntmps42
  go_wp2_with (refine wpList_store_row rfl 95 _ _ rfl _ _ rfl rfl _ _ h2 (by kernel_rfl) (by rfl) (by simp [Value.oneCell']) ?_)
  refine bodyPost_ret (results_cell_row rfl _ _ _ _ _ _ _ rfl ((h2.row _)) Tryz.underlying95 rfl (by kernel_rfl)) rfl ?_
  exact ⟨rfl, HE.out.row (by omega) _⟩
theorem right16_c (A : Option Addr) (h : Hr) (c : Nat) (w : World) (hok : h.ok) (hr : RowV KS w A h.L c) (hT : Lays w) :
    Calls Tryz.prog 18 #[.agg (hrC ⟨A, c, h⟩)] w fun r w' => r = .returned (.bool (rightH h)) ∧ Ext w w' := by
  have h1 := Blk.new w 29 (hrC ⟨A, c, h⟩)
  have HE := Lib.hid ((Ext.refl w).alloc (.cells (hrC ⟨A, c, h⟩) 29))
  have crt := fun w k t => right14_c A h.L c hok.2.2.2 w k t
  have csp := fun w => may7_c h.sp hok.1 w
  have cwy := fun w => way16_c A h c 0 w
  have cis := fun w => is8_c (wayH h 0) w
  rw [show wyIs (wayH h 0) = (h.pr == 0 || h.pr == 1) by
    rw [way_lit, is_lit, Bool.eq_iff_iff]; simp; omega] at cis
  have hq := rightH_eq h
  generalize rightT h.L = R at *
  generalize smB h.sp = P at *
  generalize wayH h 0 = y at cwy cis
  generalize (h.pr == 0 || h.pr == 1) = B at hq cis
  have hrow : ∀ W : World, Ext w W → RowV KS W A h.L c := fun W k => hr.ext k
  clear hok hr
  cases R
  · go_enter Tryz.func18, Tryz.ntmps18
    go_wp2_with ((refine wpList_load_part (by rfl) 24 _ rfl rfl h1 (hrC_tlb A c h) Tryz.underlying24 rfl (tb_info _) ?_)); refine (crt _ (hrow _ HE.out) (hT.ext HE.out)).mono ?_; rintro e w' ⟨rfl, hE⟩; replace h1 := h1.ext hE; replace HE := Lib.hid (HE.out.trans hE); clear hE
    clear crt csp cwy cis
    go_wp2
    go_ret
    refine ⟨?_, HE.out⟩
    rw [hq]
    (rfl)
  cases P
  · go_enter Tryz.func18, Tryz.ntmps18
    go_wp2_with ((refine wpList_load_part (by rfl) 24 _ rfl rfl h1 (hrC_tlb A c h) Tryz.underlying24 rfl (tb_info _) ?_)); refine (crt _ (hrow _ HE.out) (hT.ext HE.out)).mono ?_; rintro e w' ⟨rfl, hE⟩; replace h1 := h1.ext hE; replace HE := Lib.hid (HE.out.trans hE); clear hE
    clear crt
    go_wp2_with ((refine wpList_load_part (by rfl) 27 _ rfl rfl h1 (hrC_sp A c h) Tryz.underlying27 rfl (sp_info _) ?_)); refine (csp _).mono ?_; rintro e w' ⟨rfl, hE⟩; replace h1 := h1.ext hE; replace HE := Lib.hid (HE.out.trans hE); clear hE
    clear csp cwy cis
    go_wp2
    go_ret
    refine ⟨?_, HE.out⟩
    rw [hq]
    (rfl)
  · go_enter Tryz.func18, Tryz.ntmps18
    go_wp2_with ((refine wpList_load_part (by rfl) 24 _ rfl rfl h1 (hrC_tlb A c h) Tryz.underlying24 rfl (tb_info _) ?_)); refine (crt _ (hrow _ HE.out) (hT.ext HE.out)).mono ?_; rintro e w' ⟨rfl, hE⟩; replace h1 := h1.ext hE; replace HE := Lib.hid (HE.out.trans hE); clear hE
    clear crt
    go_wp2_with ((refine wpList_load_part (by rfl) 27 _ rfl rfl h1 (hrC_sp A c h) Tryz.underlying27 rfl (sp_info _) ?_)); refine (csp _).mono ?_; rintro e w' ⟨rfl, hE⟩; replace h1 := h1.ext hE; replace HE := Lib.hid (HE.out.trans hE); clear hE
    clear csp
    go_wp2_with ((refine wpList_load_blk (by rfl) 29 _ rfl rfl h1 Tryz.underlying29 rfl (by kernel_rfl) ?_)); refine (cwy _).mono ?_; rintro e w' ⟨rfl, hE⟩; replace h1 := h1.ext hE; replace HE := Lib.hid (HE.out.trans hE); clear hE
    clear cwy
    go_wp2_with (fail); refine (cis _).mono ?_; rintro e w' ⟨rfl, hE⟩; replace h1 := h1.ext hE; replace HE := Lib.hid (HE.out.trans hE); clear hE
    clear cis
    go_wp2
    go_ret
    refine ⟨?_, HE.out⟩
    rw [hq]
    (rfl)
end Go.Proofs.YtlhoedpencmikaaGreatDoor
/- Package hart: do (an access's load or store). -/
namespace Go.Proofs.YtlhoedpencmikaaGreatDoor
open Go.ChangeShapes Go.WideShapes Go.ChangeAt Go.RowKit
set_option linter.unusedVariables false
set_option linter.unusedSimpArgs false
set_option maxRecDepth 10000

def doM (x : Ax) (p : Nat) : List (Nat × Nat) := if x.k = 2 ∧ p < x.S then storeL x.M p x.s x.v else x.M
def doR (x : Ax) (p : Nat) : Rs := if p < x.S then ⟨if x.k = 2 then 0 else loadL x.M p x.s, ⟨false, 0, 0⟩⟩ else ⟨0, fltF 1 x.k x.a⟩
/-- what a load or a store leaves -/
def Done (g : Nat) (x : Ax) (p : Nat) (w : World) (r : Ending) (w' : World) : Prop :=
  ∃ B d, r = .returned (.agg (rsC (doR x p))) ∧ Blk w' g 100 (axC { x with B := B, M := doM x p, d := d }) ∧ Mem w' x.S B (doM x p) d ∧ (∀ lo hi, hi ≤ w.heap.size → Out lo hi x.B x.M.length → Out lo hi B (doM x p).length) ∧ Only g w w'
theorem rs_zero : rsC ⟨0, ⟨false, 0, 0⟩⟩ = #[.int .u64 0, .bool false, .int .i64 0, .int .u64 0] := by rw [rsC_def, ftC_def]; rfl
theorem rs_put (v : Nat) (f : Ft) : putAt (rsC ⟨v, ⟨false, 0, 0⟩⟩) 1 (ftC f).toList = rsC ⟨v, f⟩ := rsC_set_f ⟨v, ⟨false, 0, 0⟩⟩ f
theorem rs_val (v : Nat) : (rsC ⟨0, ⟨false, 0, 0⟩⟩).setIfInBounds 0 (.int .u64 (v : Int)) = rsC ⟨v, ⟨false, 0, 0⟩⟩ := rsC_set_v ⟨0, ⟨false, 0, 0⟩⟩ v
set_option maxHeartbeats 4000000 in
theorem do16_c (x : Ax) (p : Nat) (p1 : p < 18446744073709551616) (hs : IsSize x.s) (hp : p % x.s = 0) (hk : x.k < 3) (v1 : x.v < 18446744073709551616) (g : Nat) (w : World) (hb : Blk w g 100 (axC x)) (hM : Mem w x.S x.B x.M x.d) (hf : x.M.length ≤ 999) (ho : Out g (g + 1) x.B x.M.length) (hT : ∀ w', Only g w w' → Layh w') :
    Calls Tryz.prog 45 #[.pointer (some ⟨g, 0, none⟩), .int .u64 (p : Int)] w (Done g x p w) := by
  have h1 : Blk ((w.alloc (.cells #[.int .u64 0, .bool false, .int .i64 0, .int .u64 0] 56)).alloc (.cells #[.int .u64 0, .bool false, .int .i64 0, .int .u64 0] 56)) w.heap.size 56 #[.int .u64 0, .bool false, .int .i64 0, .int .u64 0] := (Blk.new w _ _).alloc _
  have h2 : Blk ((w.alloc (.cells #[.int .u64 0, .bool false, .int .i64 0, .int .u64 0] 56)).alloc (.cells #[.int .u64 0, .bool false, .int .i64 0, .int .u64 0] 56)) (w.heap.size + 1) 56 #[.int .u64 0, .bool false, .int .i64 0, .int .u64 0] := blk_at (by simp)
  have HE := Lib.hid (((Ext.refl w).alloc (.cells #[.int .u64 0, .bool false, .int .i64 0, .int .u64 0] 56)).alloc (.cells #[.int .u64 0, .bool false, .int .i64 0, .int .u64 0] 56))
  have h3 := hb.ext HE.out
  have x10 := h3.ax.k
  have hg := hb.lt
  by_cases h2k : x.k = 2
  · by_cases hpS : p < x.S
    · have d0 : ((x.k : Int) == 2) = true := by rw [h2k]; rfl
      have cst := fun W h => store_o (w := W) (S := x.S) (A := x.B) (L := x.M) (c := x.d) (i := p) (s := x.s) h v1 hs hp hpS hf
      have hD : doM x p = storeL x.M p x.s x.v := by unfold doM; rw [if_pos ⟨h2k, hpS⟩]
      have hR : doR x p = ⟨0, ⟨false, 0, 0⟩⟩ := by unfold doR; rw [if_pos hpS, if_pos h2k]
      go_enter Tryz.func45, Tryz.ntmps45
      go_wp2_with fail
      generalize (w.alloc (.cells #[.int .u64 0, .bool false, .int .i64 0, .int .u64 0] 56)).alloc (.cells #[.int .u64 0, .bool false, .int .i64 0, .int .u64 0] 56) = W1 at *
      replace hb := Blk.drew hb; replace h1 := Blk.drew h1; replace h2 := Blk.drew h2; replace h3 := Blk.drew h3; replace HE := Lib.hid HE.out.drew
      refine wp_region_seq [(0, false), (1, false), (2, false), (3, false), (5, false), (6, false), (7, false), (8, false), (9, false), (10, false), (11, false), (12, false), (13, false), (4, true), (14, true), (15, false), (16, false), (17, false), (18, false), (19, false), (20, true), (21, false)] (Save g 8 10) (by kernel_rfl) (by kernel_rfl) (Save.refl _ _ _) (fun _ _ _ => Save.trans) ?_
      simp only [List.map, nth_z, nth_s]
      (repeat (first | (refine seq_read (by rfl) (by rfl) ?_; intro K hK; go_big_quiet_op; first | go_big_quiet_on | (refine ⟨_, fun _ _ => rfl, ?_⟩; go_big_quiet_on)) | (refine seq_nil rfl rfl (by rfl) ?_; intro K hK; simp only [Act.put, List.setIfInBounds_toArray, List.set_cons_zero, List.set_cons_succ]; refine hK _ ?_; clear hK K)))
      refine seq_value (.int .i64 (x.s : Int)) (by rfl) (fun x hx => by have hq := (hx.cell h3 (by omega) h3.ax.z); simp [go_sem, execOp, Act.eval, hq]) ?_; intro K hK; simp only [Act.put, List.setIfInBounds_toArray, List.set_cons_zero, List.set_cons_succ]; refine hK _ ?_; clear hK K
      (repeat (first | (refine seq_read (by rfl) (by rfl) ?_; intro K hK; go_big_quiet_op; first | go_big_quiet_on | (refine ⟨_, fun _ _ => rfl, ?_⟩; go_big_quiet_on)) | (refine seq_nil rfl rfl (by rfl) ?_; intro K hK; simp only [Act.put, List.setIfInBounds_toArray, List.set_cons_zero, List.set_cons_succ]; refine hK _ ?_; clear hK K)))
      refine seq_value (.int .u64 (x.v : Int)) (by rfl) (fun x hx => by have hq := (hx.cell h3 (by omega) h3.ax.v); simp [go_sem, execOp, Act.eval, hq]) ?_; intro K hK; simp only [Act.put, List.setIfInBounds_toArray, List.set_cons_zero, List.set_cons_succ]; refine hK _ ?_; clear hK K
      skip
      refine seq_part_now rfl rfl (h3) (axC_mem x) rfl Tryz.underlying32 (by kernel_rfl) (by rfl) ((Save.refl _ _ _ _)) ?_; intro K hK; simp only [Act.put, List.setIfInBounds_toArray, List.set_cons_zero, List.set_cons_succ]; refine hK _ _ ?_; clear hK K
      have hsz := h1.lt
      refine seq_call (cst _ (hM.ext HE.out)) rfl Tryz.func54 (by kernel_rfl) (by kernel_rfl) (by rfl) (by rfl) ?_; intro K hK; rintro e w' ⟨B5, d5, rfl, hM5, ho5, hE⟩; refine ⟨_, rfl, (Save.ext hE), ?_⟩; simp only [Act.put, List.setIfInBounds_toArray, List.set_cons_zero, List.set_cons_succ]; refine hK _ _ ?_; clear hK K
      replace h1 := h1.ext hE; replace h2 := h2.ext hE; replace h3 := h3.ext hE; (replace HE := Lib.hid (HE.out.trans hE))
      clear hE cst
      (repeat (first | (refine seq_read (by rfl) (by rfl) ?_; intro K hK; go_big_quiet_op; first | go_big_quiet_on | (refine ⟨_, fun _ _ => rfl, ?_⟩; go_big_quiet_on)) | (refine seq_nil rfl rfl (by rfl) ?_; intro K hK; simp only [Act.put, List.setIfInBounds_toArray, List.set_cons_zero, List.set_cons_succ]; refine hK _ ?_; clear hK K)))
      have h3k := h3
      have HW := Lib.hid HE.out
      have hM6 := hM5.set ((ho5 g).mono (by omega)) (axC { x with B := B5, M := doM x p, d := d5 })
      have HO := Lib.hid ((Only.ext (Nat.le_of_lt hg) HE.out).trans (Only.row w' g (axC { x with B := B5, M := doM x p, d := d5 })))
      replace h1 := h1.apart (show w.heap.size ≠ g by omega) (axC { x with B := B5, M := doM x p, d := d5 })
      replace h2 := h2.apart (show w.heap.size + 1 ≠ g by omega) (axC { x with B := B5, M := doM x p, d := d5 })
      replace h3 := h3.row (axC { x with B := B5, M := doM x p, d := d5 })
      refine seq_store_part rfl rfl rfl (h3k) ((by rw [axC_size]; show 8 + 2 ≤ 14; decide)) ((axC_put8 x (S := x.S) (B := B5) (d := d5) (M := doM x p) (by rw [hD]))) ((me_info _ _ _ _)) ((me_one _ _ _ _)) (by rfl) ((Save.row h3k (fun i hi => by rw [← axC_put8 x (S := x.S) (B := B5) (d := d5) (n := (doM x p).length) (M := doM x p) rfl]; exact putAt_out i _ _ _ hi))) ?_; intro K hK; simp only [Act.put]; refine hK _ _ ?_; clear hK K
      (repeat ((refine seq_read (by rfl) (by rfl) ?_; intro K hK; go_big_quiet_op; (go_big_quiet_on))))
      refine seq_done ?_
      generalize w'.setRow g (axC { x with B := B5, M := doM x p, d := d5 }) = X at *
      rw [← rs_zero] at h2
      go_wp2_with (first | (refine wpList_load_blk (by rfl) 56 _ rfl rfl h2 Tryz.underlying56 rfl (by kernel_rfl) ?_) | (refine wpList_store_row rfl 56 _ _ rfl _ (rsC _) rfl rfl _ _ h1 (rs_info _) (by simp [rsC_size]) (rsC_one _) ?_))
      refine bodyPost_ret (results_cell_row rfl _ _ _ _ _ _ _ rfl ((h1.row _)) Tryz.underlying56 rfl (rs_info _)) rfl ?_
      exact ⟨B5, d5, by rw [hR], h3.apart (show g ≠ w.heap.size by omega) _, by rw [hD]; exact hM6.set ((ho5 _).mono (show w.heap.size + 1 ≤ W1.drew.heap.size by omega)) _, fun lo hi hh _ => by rw [hD]; exact (ho5 lo).mono (by omega), HO.out.own hg (Nat.le_refl _) _⟩
    · have d0 : ((x.k : Int) == 2) = true := by rw [h2k]; rfl
      have hE3 := errN_3 hs hp (show x.S ≤ p by omega)
      have cst := fun W => store_no x.S x.B x.M x.d p x.v (x.s : Int) p1 (by omega) W
      rw [hE3] at cst
      have hD : doM x p = x.M := by unfold doM; rw [if_neg (by omega)]
      have hR : doR x p = ⟨0, ⟨true, cauI (3 + x.k), x.a⟩⟩ := by unfold doR; rw [if_neg hpS, flt_eq (by decide)]
      clear hE3
      go_enter Tryz.func45, Tryz.ntmps45
      go_wp2_with fail
      generalize (w.alloc (.cells #[.int .u64 0, .bool false, .int .i64 0, .int .u64 0] 56)).alloc (.cells #[.int .u64 0, .bool false, .int .i64 0, .int .u64 0] 56) = W1 at *
      replace hb := Blk.drew hb; replace h1 := Blk.drew h1; replace h2 := Blk.drew h2; replace h3 := Blk.drew h3; replace HE := Lib.hid HE.out.drew
      refine wp_region_seq [(0, false), (1, false), (2, false), (3, false), (5, false), (6, false), (7, false), (8, false), (9, false), (10, false), (11, false), (12, false), (13, false), (4, true), (14, true), (15, false), (16, false), (17, false), (18, false), (19, false), (20, true), (21, false)] (Save g 8 10) (by kernel_rfl) (by kernel_rfl) (Save.refl _ _ _) (fun _ _ _ => Save.trans) ?_
      simp only [List.map, nth_z, nth_s]
      (repeat (first | (refine seq_read (by rfl) (by rfl) ?_; intro K hK; go_big_quiet_op; first | go_big_quiet_on | (refine ⟨_, fun _ _ => rfl, ?_⟩; go_big_quiet_on)) | (refine seq_nil rfl rfl (by rfl) ?_; intro K hK; simp only [Act.put, List.setIfInBounds_toArray, List.set_cons_zero, List.set_cons_succ]; refine hK _ ?_; clear hK K)))
      refine seq_value (.int .i64 (x.s : Int)) (by rfl) (fun x hx => by have hq := (hx.cell h3 (by omega) h3.ax.z); simp [go_sem, execOp, Act.eval, hq]) ?_; intro K hK; simp only [Act.put, List.setIfInBounds_toArray, List.set_cons_zero, List.set_cons_succ]; refine hK _ ?_; clear hK K
      (repeat (first | (refine seq_read (by rfl) (by rfl) ?_; intro K hK; go_big_quiet_op; first | go_big_quiet_on | (refine ⟨_, fun _ _ => rfl, ?_⟩; go_big_quiet_on)) | (refine seq_nil rfl rfl (by rfl) ?_; intro K hK; simp only [Act.put, List.setIfInBounds_toArray, List.set_cons_zero, List.set_cons_succ]; refine hK _ ?_; clear hK K)))
      refine seq_value (.int .u64 (x.v : Int)) (by rfl) (fun x hx => by have hq := (hx.cell h3 (by omega) h3.ax.v); simp [go_sem, execOp, Act.eval, hq]) ?_; intro K hK; simp only [Act.put, List.setIfInBounds_toArray, List.set_cons_zero, List.set_cons_succ]; refine hK _ ?_; clear hK K
      skip
      refine seq_part_now rfl rfl (h3) (axC_mem x) rfl Tryz.underlying32 (by kernel_rfl) (by rfl) ((Save.refl _ _ _ _)) ?_; intro K hK; simp only [Act.put, List.setIfInBounds_toArray, List.set_cons_zero, List.set_cons_succ]; refine hK _ _ ?_; clear hK K
      have hsz := h1.lt
      refine seq_call (cst _) rfl Tryz.func54 (by kernel_rfl) (by kernel_rfl) (by rfl) (by rfl) ?_; intro K hK; rintro e w' ⟨rfl, hE⟩; refine ⟨_, rfl, (Save.ext hE), ?_⟩; simp only [Act.put, List.setIfInBounds_toArray, List.set_cons_zero, List.set_cons_succ]; refine hK _ _ ?_; clear hK K
      replace h1 := h1.ext hE; replace h2 := h2.ext hE; replace h3 := h3.ext hE; (replace HE := Lib.hid (HE.out.trans hE))
      clear hE cst
      (repeat (first | (refine seq_read (by rfl) (by rfl) ?_; intro K hK; go_big_quiet_op; first | go_big_quiet_on | (refine ⟨_, fun _ _ => rfl, ?_⟩; go_big_quiet_on)) | (refine seq_nil rfl rfl (by rfl) ?_; intro K hK; simp only [Act.put, List.setIfInBounds_toArray, List.set_cons_zero, List.set_cons_succ]; refine hK _ ?_; clear hK K)))
      have h3k := h3
      have hM6 := (hM.ext HE.out).set ho (axC x)
      have HO := Lib.hid ((Only.ext (Nat.le_of_lt hg) HE.out).trans (Only.row w' g (axC x)))
      replace h1 := h1.apart (show w.heap.size ≠ g by omega) (axC x)
      replace h2 := h2.apart (show w.heap.size + 1 ≠ g by omega) (axC x)
      replace h3 := h3.row (axC x)
      refine seq_store_part rfl rfl rfl (h3k) ((by rw [axC_size]; show 8 + 2 ≤ 14; decide)) ((axC_put8 x (S := x.S) (B := x.B) (d := x.d) (M := x.M) rfl)) ((me_info _ _ _ _)) ((me_one _ _ _ _)) (by rfl) ((Save.row h3k (fun i hi => rfl))) ?_; intro K hK; simp only [Act.put]; refine hK _ _ ?_; clear hK K
      (repeat ((refine seq_read (by rfl) (by rfl) ?_; intro K hK; go_big_quiet_op; (go_big_quiet_on))))
      refine seq_done ?_
      clear HE h3k
      generalize w'.setRow g (axC x) = X at *
      have HE := Lib.hid (Ext.refl X)
      have hXs : w.heap.size ≤ X.heap.size := HO.out.b.size
      rw [← rs_zero] at h2
      have hTX : ∀ W, Ext X W → Layh W := fun W h => hT W (HO.out.up hg h)
      obtain ⟨V, hV⟩ : ∃ V : Nat, 0 = V := ⟨0, rfl⟩
      have h2z : Blk X (w.heap.size + 1) 56 (rsC ⟨V, ⟨false, 0, 0⟩⟩) := by rw [← hV]; exact h2
      replace h2 := h2z
      have HV := Lib.hid hV
      clear h2z hV
      have cac := fun W h => access9_c x.k hk x.a W h
      go_wp2_with fail
      replace hb := Blk.drew hb; replace h1 := Blk.drew h1; replace h2 := Blk.drew h2; replace h3 := Blk.drew h3; replace HE := Lib.hid HE.out.drew
      refine wp_region_seq [(0, false), (1, false), (2, false), (3, false), (4, false), (5, false), (6, false), (7, false), (8, true), (9, false), (10, true)] (Gap (w.heap.size + 1) (w.heap.size + 2)) (by kernel_rfl) (by kernel_rfl) (Gap.refl _ _) (fun _ _ _ => Gap.trans) ?_; simp only [List.map, nth_z, nth_s]
      (repeat (first | (refine seq_read (by rfl) (by rfl) ?_; intro K hK; go_big_quiet_op; first | go_big_quiet_on | (refine ⟨_, fun _ _ => rfl, ?_⟩; go_big_quiet_on)) | (refine seq_nil rfl rfl (by rfl) ?_; intro K hK; simp only [Act.put, List.setIfInBounds_toArray, List.set_cons_zero, List.set_cons_succ]; refine hK _ ?_; clear hK K)))
      refine seq_value (.int .i64 (x.k : Int)) (by rfl) (fun x hx => by have hq := ((Gap.blk hx h3 (by omega)).ax.k); simp [go_sem, execOp, Act.eval, hq]) ?_; intro K hK; simp only [Act.put, List.setIfInBounds_toArray, List.set_cons_zero, List.set_cons_succ]; refine hK _ ?_; clear hK K
      (repeat (first | (refine seq_read (by rfl) (by rfl) ?_; intro K hK; go_big_quiet_op; first | go_big_quiet_on | (refine ⟨_, fun _ _ => rfl, ?_⟩; go_big_quiet_on)) | (refine seq_nil rfl rfl (by rfl) ?_; intro K hK; simp only [Act.put, List.setIfInBounds_toArray, List.set_cons_zero, List.set_cons_succ]; refine hK _ ?_; clear hK K)))
      refine seq_value (.int .u64 (x.a : Int)) (by rfl) (fun x hx => by have hq := ((Gap.blk hx h3 (by omega)).ax.a); simp [go_sem, execOp, Act.eval, hq]) ?_; intro K hK; simp only [Act.put, List.setIfInBounds_toArray, List.set_cons_zero, List.set_cons_succ]; refine hK _ ?_; clear hK K
      skip
      refine seq_call (cac _ (hTX _ HE.out).t.2) rfl Tryz.func84 (by kernel_rfl) (by kernel_rfl) (by rfl) (by rfl) ?_; intro K hK; rintro e w' ⟨rfl, hE⟩; refine ⟨_, rfl, (Gap.ext hE), ?_⟩; simp only [Act.put, List.setIfInBounds_toArray, List.set_cons_zero, List.set_cons_succ]; refine hK _ _ ?_; clear hK K; replace h1 := h1.ext hE; replace h2 := h2.ext hE; replace h3 := h3.ext hE; (replace HE := Lib.hid (HE.out.trans hE))
      clear hE cac
      (repeat ((refine seq_read (by rfl) (by rfl) ?_; intro K hK; go_big_quiet_op; (refine ⟨_, fun _ _ => rfl, ?_⟩; go_big_quiet_on))))
      have h2k' := h2
      refine seq_store_part rfl rfl rfl (h2k') ((by rw [rsC_size, ftC_size]; decide)) ((rs_put _ _)) ((ft_info _)) ((ftC_one _)) (by rfl) ((Gap.row _ (Nat.le_refl _) (by omega) _)) ?_; intro K hK; simp only [Act.put]; refine hK _ _ ?_; clear hK K
      refine seq_done ?_
      replace h1 := h1.apart (show w.heap.size ≠ w.heap.size + 1 by omega) (rsC ⟨V, ⟨true, cauI (3 + x.k), x.a⟩⟩)
      replace h3 := h3.apart (show g ≠ w.heap.size + 1 by omega) (rsC ⟨V, ⟨true, cauI (3 + x.k), x.a⟩⟩)
      replace h2 := h2.row (rsC ⟨V, ⟨true, cauI (3 + x.k), x.a⟩⟩)
      clear h2k'
      go_wp2_with (first | (refine wpList_load_blk (by rfl) 56 _ rfl rfl h2 Tryz.underlying56 rfl (by kernel_rfl) ?_) | (refine wpList_store_row rfl 56 _ _ rfl _ (rsC _) rfl rfl _ _ h1 (rs_info _) (by simp [rsC_size]) (rsC_one _) ?_))
      refine bodyPost_ret (results_cell_row rfl _ _ _ _ _ _ _ rfl ((h1.row _)) Tryz.underlying56 rfl (rs_info _)) rfl ?_
      have hV := HV.out
      subst hV
      have hout := hM.out (w.heap.size + 2)
      exact ⟨x.B, x.d, by rw [hR], by rw [hD]; exact h3.apart (show g ≠ w.heap.size by omega) _, by rw [hD]; exact ((hM6.ext HE.out).set (hout.one (by omega) (by omega)) _).set (hout.one (by omega) (by omega)) _, fun lo hi hh ho => by rw [hD]; exact ho, ((HO.out.up hg HE.out).own hg (by omega) _).own hg (by omega) _⟩
  · have d0 : ((x.k : Int) == 2) = false := by rw [beq_eq_false_iff_ne]; omega
    have hD : doM x p = x.M := by unfold doM; rw [if_neg (fun h => h2k h.1)]
    by_cases hpS : p < x.S
    · have cld := fun W h => load_x (w := W) (S := x.S) (A := x.B) (L := x.M) (c := x.d) (i := p) (s := x.s) h hs hp hpS
      have hR : doR x p = ⟨loadL x.M p x.s, ⟨false, 0, 0⟩⟩ := by unfold doR; rw [if_pos hpS, if_neg h2k]
      generalize loadL x.M p x.s = V at *
      go_enter Tryz.func45, Tryz.ntmps45
      go_wp2_with fail
      generalize (w.alloc (.cells #[.int .u64 0, .bool false, .int .i64 0, .int .u64 0] 56)).alloc (.cells #[.int .u64 0, .bool false, .int .i64 0, .int .u64 0] 56) = W1 at *
      rw [← rs_zero] at h2
      replace hb := Blk.drew hb; replace h1 := Blk.drew h1; replace h2 := Blk.drew h2; replace h3 := Blk.drew h3; replace HE := Lib.hid HE.out.drew
      refine wp_region_seq [(0, false), (1, false), (2, false), (3, false), (4, false), (5, false), (6, false), (7, false), (8, false), (9, true), (10, false), (11, false), (12, false), (13, false), (14, true), (15, false)] (Gap (w.heap.size + 1) (w.heap.size + 2)) (by kernel_rfl) (by kernel_rfl) (Gap.refl _ _) (fun _ _ _ => Gap.trans) ?_; simp only [List.map, nth_z, nth_s]
      (repeat (first | (refine seq_read (by rfl) (by rfl) ?_; intro K hK; go_big_quiet_op; first | go_big_quiet_on | (refine ⟨_, fun _ _ => rfl, ?_⟩; go_big_quiet_on)) | (refine seq_nil rfl rfl (by rfl) ?_; intro K hK; simp only [Act.put, List.setIfInBounds_toArray, List.set_cons_zero, List.set_cons_succ]; refine hK _ ?_; clear hK K)))
      refine seq_load_part rfl rfl (fun y hx => Gap.blk hx h3 (by omega)) (axC_mem x) rfl Tryz.underlying32 (me_info _ _ _ _) (by rfl) ?_
      intro K hK; simp only [Act.put, List.setIfInBounds_toArray, List.set_cons_zero, List.set_cons_succ]; refine hK _ ?_; clear hK K
      (repeat (first | (refine seq_read (by rfl) (by rfl) ?_; intro K hK; go_big_quiet_op; first | go_big_quiet_on | (refine ⟨_, fun _ _ => rfl, ?_⟩; go_big_quiet_on)) | (refine seq_nil rfl rfl (by rfl) ?_; intro K hK; simp only [Act.put, List.setIfInBounds_toArray, List.set_cons_zero, List.set_cons_succ]; refine hK _ ?_; clear hK K)))
      refine seq_value (.int .i64 (x.s : Int)) (by rfl) (fun x hx => by have hq := ((Gap.blk hx h3 (by omega)).ax.z); simp [go_sem, execOp, Act.eval, hq]) ?_; intro K hK; simp only [Act.put, List.setIfInBounds_toArray, List.set_cons_zero, List.set_cons_succ]; refine hK _ ?_; clear hK K
      skip
      refine seq_call (cld _ (hM.ext HE.out)) rfl Tryz.func83 (by kernel_rfl) (by kernel_rfl) (by rfl) (by rfl) ?_; intro K hK; rintro e w' ⟨rfl, hE⟩; refine ⟨_, rfl, (Gap.ext hE), ?_⟩; simp only [Act.put, List.setIfInBounds_toArray, List.set_cons_zero, List.set_cons_succ]; refine hK _ _ ?_; clear hK K; replace h1 := h1.ext hE; replace h2 := h2.ext hE; replace h3 := h3.ext hE; (replace HE := Lib.hid (HE.out.trans hE))
      clear hE cld
      (repeat ((refine seq_read (by rfl) (by rfl) ?_; intro K hK; go_big_quiet_op; first | go_big_quiet_on | (refine ⟨_, fun _ _ => rfl, ?_⟩; go_big_quiet_on))))
      have h2k' := h2
      refine seq_store_cell rfl rfl rfl (h2k') ((by rw [rsC_size]; decide)) ((rs_val V)) (by kernel_rfl) rfl rfl (by rfl) ((Gap.row _ (Nat.le_refl _) (by omega) _)) ?_; intro K hK; simp only [Act.put]; refine hK _ _ ?_; clear hK K
      (repeat ((refine seq_read (by rfl) (by rfl) ?_; intro K hK; go_big_quiet_op; (go_big_quiet_on))))
      refine seq_done ?_
      replace h1 := h1.apart (show w.heap.size ≠ w.heap.size + 1 by omega) (rsC ⟨V, ⟨false, 0, 0⟩⟩)
      replace h3 := h3.apart (show g ≠ w.heap.size + 1 by omega) (rsC ⟨V, ⟨false, 0, 0⟩⟩)
      replace h2 := h2.row (rsC ⟨V, ⟨false, 0, 0⟩⟩)
      replace HE := Lib.hid (HE.out.row (show w.heap.size ≤ w.heap.size + 1 by omega) (rsC ⟨V, ⟨false, 0, 0⟩⟩))
      clear h2k'
      go_wp2_with (first | (refine wpList_load_blk (by rfl) 56 _ rfl rfl h2 Tryz.underlying56 rfl (by kernel_rfl) ?_) | (refine wpList_store_row rfl 56 _ _ rfl _ (rsC _) rfl rfl _ _ h1 (rs_info _) (by simp [rsC_size]) (rsC_one _) ?_))
      refine bodyPost_ret (results_cell_row rfl _ _ _ _ _ _ _ rfl ((h1.row _)) Tryz.underlying56 rfl (rs_info _)) rfl ?_
      exact ⟨x.B, x.d, by rw [hR], by rw [hD]; exact h3.apart (show g ≠ w.heap.size by omega) _, by rw [hD]; exact hM.ext (HE.out.row (Nat.le_refl _) _), fun lo hi hh ho => by rw [hD]; exact ho, Only.ext (Nat.le_of_lt hg) (HE.out.row (Nat.le_refl _) _)⟩
    · have hE3 := errN_3 hs hp (show x.S ≤ p by omega)
      have cld := fun W (h : Mem W x.S x.B x.M x.d) => load_c x.S x.B x.M x.d p (x.S / 8) (x.s : Int) p1 h.rl (by have := h.few; omega) W h.row.1
      rw [ldN_no (by omega), hE3] at cld
      have hR : doR x p = ⟨0, ⟨true, cauI (3 + x.k), x.a⟩⟩ := by unfold doR; rw [if_neg hpS, flt_eq (by decide)]
      clear hE3
      obtain ⟨V, hV⟩ : ∃ V : Nat, 0 = V := ⟨0, rfl⟩
      rw [hV] at cld
      have HV := Lib.hid hV
      clear hV
      go_enter Tryz.func45, Tryz.ntmps45
      go_wp2_with fail
      generalize (w.alloc (.cells #[.int .u64 0, .bool false, .int .i64 0, .int .u64 0] 56)).alloc (.cells #[.int .u64 0, .bool false, .int .i64 0, .int .u64 0] 56) = W1 at *
      rw [← rs_zero] at h2
      replace hb := Blk.drew hb; replace h1 := Blk.drew h1; replace h2 := Blk.drew h2; replace h3 := Blk.drew h3; replace HE := Lib.hid HE.out.drew
      refine wp_region_seq [(0, false), (1, false), (2, false), (3, false), (4, false), (5, false), (6, false), (7, false), (8, false), (9, true), (10, false), (11, false), (12, false), (13, false), (14, true), (15, false)] (Gap (w.heap.size + 1) (w.heap.size + 2)) (by kernel_rfl) (by kernel_rfl) (Gap.refl _ _) (fun _ _ _ => Gap.trans) ?_; simp only [List.map, nth_z, nth_s]
      (repeat (first | (refine seq_read (by rfl) (by rfl) ?_; intro K hK; go_big_quiet_op; first | go_big_quiet_on | (refine ⟨_, fun _ _ => rfl, ?_⟩; go_big_quiet_on)) | (refine seq_nil rfl rfl (by rfl) ?_; intro K hK; simp only [Act.put, List.setIfInBounds_toArray, List.set_cons_zero, List.set_cons_succ]; refine hK _ ?_; clear hK K)))
      refine seq_load_part rfl rfl (fun y hx => Gap.blk hx h3 (by omega)) (axC_mem x) rfl Tryz.underlying32 (me_info _ _ _ _) (by rfl) ?_
      intro K hK; simp only [Act.put, List.setIfInBounds_toArray, List.set_cons_zero, List.set_cons_succ]; refine hK _ ?_; clear hK K
      (repeat (first | (refine seq_read (by rfl) (by rfl) ?_; intro K hK; go_big_quiet_op; first | go_big_quiet_on | (refine ⟨_, fun _ _ => rfl, ?_⟩; go_big_quiet_on)) | (refine seq_nil rfl rfl (by rfl) ?_; intro K hK; simp only [Act.put, List.setIfInBounds_toArray, List.set_cons_zero, List.set_cons_succ]; refine hK _ ?_; clear hK K)))
      refine seq_value (.int .i64 (x.s : Int)) (by rfl) (fun x hx => by have hq := ((Gap.blk hx h3 (by omega)).ax.z); simp [go_sem, execOp, Act.eval, hq]) ?_; intro K hK; simp only [Act.put, List.setIfInBounds_toArray, List.set_cons_zero, List.set_cons_succ]; refine hK _ ?_; clear hK K
      skip
      refine seq_call (cld _ (hM.ext HE.out)) rfl Tryz.func83 (by kernel_rfl) (by kernel_rfl) (by rfl) (by rfl) ?_; intro K hK; rintro e w' ⟨rfl, hE⟩; refine ⟨_, rfl, (Gap.ext hE), ?_⟩; simp only [Act.put, List.setIfInBounds_toArray, List.set_cons_zero, List.set_cons_succ]; refine hK _ _ ?_; clear hK K; replace h1 := h1.ext hE; replace h2 := h2.ext hE; replace h3 := h3.ext hE; (replace HE := Lib.hid (HE.out.trans hE))
      clear hE cld
      (repeat ((refine seq_read (by rfl) (by rfl) ?_; intro K hK; go_big_quiet_op; first | go_big_quiet_on | (refine ⟨_, fun _ _ => rfl, ?_⟩; go_big_quiet_on))))
      have h2k' := h2
      refine seq_store_cell rfl rfl rfl (h2k') ((by rw [rsC_size]; decide)) ((rs_val V)) (by kernel_rfl) rfl rfl (by rfl) ((Gap.row _ (Nat.le_refl _) (by omega) _)) ?_; intro K hK; simp only [Act.put]; refine hK _ _ ?_; clear hK K
      (repeat ((refine seq_read (by rfl) (by rfl) ?_; intro K hK; go_big_quiet_op; (go_big_quiet_on))))
      refine seq_done ?_
      replace h1 := h1.apart (show w.heap.size ≠ w.heap.size + 1 by omega) (rsC ⟨V, ⟨false, 0, 0⟩⟩)
      replace h3 := h3.apart (show g ≠ w.heap.size + 1 by omega) (rsC ⟨V, ⟨false, 0, 0⟩⟩)
      replace h2 := h2.row (rsC ⟨V, ⟨false, 0, 0⟩⟩)
      replace HE := Lib.hid (HE.out.row (show w.heap.size ≤ w.heap.size + 1 by omega) (rsC ⟨V, ⟨false, 0, 0⟩⟩))
      clear h2k'
      have hTX : ∀ W, Ext w W → Layh W := fun W h => hT W (Only.ext (by omega) h)
      have cac := fun W h => access9_c x.k hk x.a W h
      go_wp2_with fail
      replace hb := Blk.drew hb; replace h1 := Blk.drew h1; replace h2 := Blk.drew h2; replace h3 := Blk.drew h3; replace HE := Lib.hid HE.out.drew
      refine wp_region_seq [(0, false), (1, false), (2, false), (3, false), (4, false), (5, false), (6, false), (7, false), (8, true), (9, false), (10, true)] (Gap (w.heap.size + 1) (w.heap.size + 2)) (by kernel_rfl) (by kernel_rfl) (Gap.refl _ _) (fun _ _ _ => Gap.trans) ?_; simp only [List.map, nth_z, nth_s]
      (repeat (first | (refine seq_read (by rfl) (by rfl) ?_; intro K hK; go_big_quiet_op; first | go_big_quiet_on | (refine ⟨_, fun _ _ => rfl, ?_⟩; go_big_quiet_on)) | (refine seq_nil rfl rfl (by rfl) ?_; intro K hK; simp only [Act.put, List.setIfInBounds_toArray, List.set_cons_zero, List.set_cons_succ]; refine hK _ ?_; clear hK K)))
      refine seq_value (.int .i64 (x.k : Int)) (by rfl) (fun x hx => by have hq := ((Gap.blk hx h3 (by omega)).ax.k); simp [go_sem, execOp, Act.eval, hq]) ?_; intro K hK; simp only [Act.put, List.setIfInBounds_toArray, List.set_cons_zero, List.set_cons_succ]; refine hK _ ?_; clear hK K
      (repeat (first | (refine seq_read (by rfl) (by rfl) ?_; intro K hK; go_big_quiet_op; first | go_big_quiet_on | (refine ⟨_, fun _ _ => rfl, ?_⟩; go_big_quiet_on)) | (refine seq_nil rfl rfl (by rfl) ?_; intro K hK; simp only [Act.put, List.setIfInBounds_toArray, List.set_cons_zero, List.set_cons_succ]; refine hK _ ?_; clear hK K)))
      refine seq_value (.int .u64 (x.a : Int)) (by rfl) (fun x hx => by have hq := ((Gap.blk hx h3 (by omega)).ax.a); simp [go_sem, execOp, Act.eval, hq]) ?_; intro K hK; simp only [Act.put, List.setIfInBounds_toArray, List.set_cons_zero, List.set_cons_succ]; refine hK _ ?_; clear hK K
      skip
      refine seq_call (cac _ (hTX _ HE.out).t.2) rfl Tryz.func84 (by kernel_rfl) (by kernel_rfl) (by rfl) (by rfl) ?_; intro K hK; rintro e w' ⟨rfl, hE⟩; refine ⟨_, rfl, (Gap.ext hE), ?_⟩; simp only [Act.put, List.setIfInBounds_toArray, List.set_cons_zero, List.set_cons_succ]; refine hK _ _ ?_; clear hK K; replace h1 := h1.ext hE; replace h2 := h2.ext hE; replace h3 := h3.ext hE; (replace HE := Lib.hid (HE.out.trans hE))
      clear hE cac
      (repeat ((refine seq_read (by rfl) (by rfl) ?_; intro K hK; go_big_quiet_op; (refine ⟨_, fun _ _ => rfl, ?_⟩; go_big_quiet_on))))
      have h2k' := h2
      refine seq_store_part rfl rfl rfl (h2k') ((by rw [rsC_size, ftC_size]; decide)) ((rs_put _ _)) ((ft_info _)) ((ftC_one _)) (by rfl) ((Gap.row _ (Nat.le_refl _) (by omega) _)) ?_; intro K hK; simp only [Act.put]; refine hK _ _ ?_; clear hK K
      refine seq_done ?_
      replace h1 := h1.apart (show w.heap.size ≠ w.heap.size + 1 by omega) (rsC ⟨V, ⟨true, cauI (3 + x.k), x.a⟩⟩)
      replace h3 := h3.apart (show g ≠ w.heap.size + 1 by omega) (rsC ⟨V, ⟨true, cauI (3 + x.k), x.a⟩⟩)
      replace h2 := h2.row (rsC ⟨V, ⟨true, cauI (3 + x.k), x.a⟩⟩)
      clear h2k'
      replace HE := Lib.hid (HE.out.row (show w.heap.size ≤ w.heap.size + 1 by omega) (rsC ⟨V, ⟨true, cauI (3 + x.k), x.a⟩⟩))
      go_wp2_with (first | (refine wpList_load_blk (by rfl) 56 _ rfl rfl h2 Tryz.underlying56 rfl (by kernel_rfl) ?_) | (refine wpList_store_row rfl 56 _ _ rfl _ (rsC _) rfl rfl _ _ h1 (rs_info _) (by simp [rsC_size]) (rsC_one _) ?_))
      refine bodyPost_ret (results_cell_row rfl _ _ _ _ _ _ _ rfl ((h1.row _)) Tryz.underlying56 rfl (rs_info _)) rfl ?_
      have hV := HV.out
      subst hV
      exact ⟨x.B, x.d, by rw [hR], by rw [hD]; exact h3.apart (show g ≠ w.heap.size by omega) _, by rw [hD]; exact hM.ext (HE.out.row (Nat.le_refl _) _), fun lo hi hh ho => by rw [hD]; exact ho, Only.ext (Nat.le_of_lt hg) (HE.out.row (Nat.le_refl _) _)⟩
end Go.Proofs.YtlhoedpencmikaaGreatDoor
/- Package hart: recall (an access led by the buffer). -/
namespace Go.Proofs.YtlhoedpencmikaaGreatDoor
open Go.ChangeShapes Go.WideShapes Go.ChangeAt Go.RowKit
set_option linter.unusedVariables false
set_option linter.unusedSimpArgs false
set_option maxRecDepth 10000

def recL (h : Hr) (k a : Nat) : Hr := if hitH h k a then { h with L := useT h.L (seT (h.sp.ai : Int) (a : Int) h.L) (wyT (h.sp.ai : Int) (a : Int) h.L) } else h
def recA (h : Hr) (k a : Nat) : Nat := if hitH h k a then (phyE (enT (h.sp.ai : Int) (a : Int) h.L) (a : Int)).toNat else 0
/-- what the buffer's way leaves -/
def Recalled (g : Nat) (x : Ax) (w : World) (r : Ending) (w' : World) : Prop :=
  ∃ A c, r = .returned (.tuple #[.int .u64 ((recA x.h x.k x.a : Nat) : Int), .bool (hitH x.h x.k x.a)]) ∧ Blk w' g 100 (axC { x with A := A, c := c, h := recL x.h x.k x.a }) ∧ RowV KS w' A (recL x.h x.k x.a).L c ∧ Only g w w'
theorem hit_lit (h : Hr) (k a : Nat) : hitH h k a = (okT (h.sp.ai : Int) (a : Int) h.L && (pmAl (enT (h.sp.ai : Int) (a : Int) h.L).pm (wayH h k) && (!decide (k = 2) || (enT (h.sp.ai : Int) (a : Int) h.L).d))) := by unfold hitH; rfl
theorem phy_nn (e : En) (a : Int) : 0 ≤ phyE e a := by
  have := off_lt a e.l
  unfold phyE
  omega
set_option maxHeartbeats 4000000 in
theorem recall16_c (x : Ax) (hr : rightH x.h = true) (hk : x.k < 3) (a1 : x.a < 18446744073709551616) (hva : vaB (x.a : Int) = true) (hai : x.h.sp.ai < 18446744073709551616) (g : Nat) (w : World) (hb : Blk w g 100 (axC x)) (hrw : RowV KS w x.A x.h.L x.c) (hT : ∀ w', Only g w w' → Layh w') :
    Calls Tryz.prog 81 #[.pointer (some ⟨g, 0, none⟩)] w (Recalled g x w) := by
  have hg := hb.lt
  have HE := Lib.hid (Ext.refl w)
  have h3 := hb
  have hrow : ∀ W : World, Ext w W → RowV KS W x.A x.h.L x.c := fun W h => hrw.ext h
  have hTE : ∀ W : World, Ext w W → Layh W := fun W h => hT W (Only.ext (Nat.le_of_lt hg) h)
  obtain ⟨hrt, -, -⟩ := right_split hr
  have hw := way_is hr hk
  have h16 := rt_len hrt
  have cfd := fun W (h : Ext w W) => find14_c x.A x.h.L x.c (by omega) hrt x.h.sp.ai x.a hai hva a1 W (hrow W h) (hTE W h).s
  unfold FoundT at cfd
  have cwy := fun W => way16_c x.A x.h x.c x.k W
  have cal := fun W => al8_c (enT (x.h.sp.ai : Int) (x.a : Int) x.h.L).pm (wayH x.h x.k) hw W
  have hq := hit_lit x.h x.k x.a
  have hA : recA x.h x.k x.a = if hitH x.h x.k x.a then (phyE (enT (x.h.sp.ai : Int) (x.a : Int) x.h.L) (x.a : Int)).toNat else 0 := by unfold recA; rfl
  have hL : recL x.h x.k x.a = if hitH x.h x.k x.a then { x.h with L := useT x.h.L (seT (x.h.sp.ai : Int) (x.a : Int) x.h.L) (wyT (x.h.sp.ai : Int) (x.a : Int) x.h.L) } else x.h := by unfold recL; rfl
  have hfo : okT (x.h.sp.ai : Int) (x.a : Int) x.h.L = true → seT (x.h.sp.ai : Int) (x.a : Int) x.h.L < x.h.L.length ∧ wyT (x.h.sp.ai : Int) (x.a : Int) x.h.L < 4 ∧ MayV (enT (x.h.sp.ai : Int) (x.a : Int) x.h.L) ∧ (enT (x.h.sp.ai : Int) (x.a : Int) x.h.L).pp < 17592186044416 := fun h => by
    have F := found h
    have hm := all_may hrt (found_mem h).1
    have kk := may_v hm (cov_valid (found_mem h).2)
    exact ⟨F.il, F.wl, kk, by have := (may_lt hm).2; omega⟩
  generalize enT (x.h.sp.ai : Int) (x.a : Int) x.h.L = e at *
  generalize okT (x.h.sp.ai : Int) (x.a : Int) x.h.L = ok at *
  generalize seT (x.h.sp.ai : Int) (x.a : Int) x.h.L = i at *
  generalize wyT (x.h.sp.ai : Int) (x.a : Int) x.h.L = v at *
  generalize pmAl e.pm (wayH x.h x.k) = P at *
  generalize wayH x.h x.k = y at *
  go_enter Tryz.func81, Tryz.ntmps81
  go_wp2_with fail
  go_cut [4, 5, 6, 7] from 8 to 28 (fun q c d b wx => ∃ z : Nat, q = .pointer (some ⟨z, 0, none⟩) ∧ c = .int .i64 (i : Int) ∧ d = .int .i64 (v : Int) ∧ b = .bool ok ∧ Hid (Blk wx z 66 (enC e)) ∧ Hid (w.heap.size ≤ z) ∧ Ext w wx)
  case first =>
    go_wp2_with fail
    replace hb := Blk.drew hb; replace h3 := Blk.drew h3; replace HE := Lib.hid HE.out.drew
    have hs0 : w.heap.size ≤ w.drew.heap.size := HE.out.size
    refine wp_region_fork [(0, false), (1, false), (2, false), (3, false), (4, false), (5, false), (6, false), (7, false), (8, false), (9, false), (10, false), (11, false), (12, false), (13, false), (14, false)] 15 [(16, false), (17, false), (18, false), (19, false), (20, false), (21, true), (22, true), (23, false), (24, false), (25, false)] 21 [(15, true), (16, false), (17, false), (18, false), (19, false), (20, false), (22, true), (23, false), (24, false), (25, false)] (Below w.heap.size) (by kernel_rfl) (by kernel_rfl) (Below.refl _) (fun _ _ _ => Below.trans) ?_
    simp only [List.map, nth_z, nth_s]
    generalize w.drew = wd at *
    (repeat (first | (refine seq_read (by rfl) (by rfl) ?_; intro K hK; go_big_quiet_op; first | go_big_quiet_on | (refine ⟨_, fun _ _ => rfl, ?_⟩; go_big_quiet_on)) | (refine seq_nil rfl rfl (by rfl) ?_; intro K hK; simp only [Act.put, List.setIfInBounds_toArray, List.set_cons_zero, List.set_cons_succ]; refine hK _ ?_; clear hK K)))
    refine seq_load_part rfl rfl ((fun x hx => Blk.lower h3 hx hg)) (axC_tlb x) rfl Tryz.underlying24 (tb_info _) (by rfl) ?_; intro K hK; simp only [Act.put, List.setIfInBounds_toArray, List.set_cons_zero, List.set_cons_succ]; refine hK _ ?_; clear hK K
    (repeat (first | (refine seq_read (by rfl) (by rfl) ?_; intro K hK; go_big_quiet_op; first | go_big_quiet_on | (refine ⟨_, fun _ _ => rfl, ?_⟩; go_big_quiet_on)) | (refine seq_nil rfl rfl (by rfl) ?_; intro K hK; simp only [Act.put, List.setIfInBounds_toArray, List.set_cons_zero, List.set_cons_succ]; refine hK _ ?_; clear hK K)))
    refine seq_value (.int .u64 (x.h.sp.ai : Int)) (by rfl) (fun x hx => by have hq := (Blk.lower h3 hx hg).ax.ai; simp [go_sem, execOp, Act.eval, hq]) ?_; intro K hK; simp only [Act.put, List.setIfInBounds_toArray, List.set_cons_zero, List.set_cons_succ]; refine hK _ ?_; clear hK K
    (repeat (first | (refine seq_read (by rfl) (by rfl) ?_; intro K hK; go_big_quiet_op; first | go_big_quiet_on | (refine ⟨_, fun _ _ => rfl, ?_⟩; go_big_quiet_on)) | (refine seq_nil rfl rfl (by rfl) ?_; intro K hK; simp only [Act.put, List.setIfInBounds_toArray, List.set_cons_zero, List.set_cons_succ]; refine hK _ ?_; clear hK K)))
    refine seq_value (.int .u64 (x.a : Int)) (by rfl) (fun x hx => by have hq := (Blk.lower h3 hx hg).ax.a; simp [go_sem, execOp, Act.eval, hq]) ?_; intro K hK; simp only [Act.put, List.setIfInBounds_toArray, List.set_cons_zero, List.set_cons_succ]; refine hK _ ?_; clear hK K
    skip
    refine seq_done ?_
    refine ⟨?_, ?_⟩
    · skip
      refine seq_call (cfd _ HE.out) rfl Tryz.func125 (by kernel_rfl) (by kernel_rfl) (by rfl) (by rfl) ?_; intro K hK; rintro e w' ⟨rfl, hE⟩; refine ⟨_, rfl, (Below.mono hE hs0), ?_⟩; simp only [Act.put, List.setIfInBounds_toArray, List.set_cons_zero, List.set_cons_succ]; refine hK _ _ ?_; clear hK K
      replace HE := Lib.hid (HE.out.trans hE)
      clear hE
      have hle := HE.out.size
      (repeat ((refine seq_read (by rfl) (by rfl) ?_; intro K hK; go_big_quiet_op; first | go_big_quiet_on | (refine ⟨_, fun _ _ => rfl, ?_⟩; go_big_quiet_on))))
      refine seq_run (.pointer (some ⟨w'.heap.size, 0, none⟩)) (w'.alloc (.cells #[.bool false, .int .u64 0, .bool false, .int .i64 0, .int .u64 0, .int .u64 0, .bool false, .bool false, .bool false, .bool false, .bool false] 66)) (by rfl) ?_ ((Below.refl _ _).alloc hle _) ?_; (simp [go_sem, execOp]); intro K hK; simp only [Act.put, List.setIfInBounds_toArray, List.set_cons_zero, List.set_cons_succ]; refine hK _ _ ?_; clear hK K
      refine seq_store_row rfl rfl rfl ((Blk.new _ _ _)) (en_info _) (by simp [enC_size]) (enC_one _) (by rfl) ((below_row (Below.refl _ _) hle _)) ?_; intro K hK; simp only [Act.put]; refine hK _ _ ?_; clear hK K
      (repeat ((refine seq_read (by rfl) (by rfl) ?_; intro K hK; go_big_quiet_op; (go_big_quiet_on))))
      refine seq_done ?_
      go_wp2_with fail
      go_meet
      case rel => exact ⟨_, rfl, rfl, rfl, rfl, Lib.hid ((Blk.new _ _ _).row _), Lib.hid hle, (HE.out.alloc _).row hle _⟩
    · skip
      have hn := Blk.new wd 66 #[.bool false, .int .u64 0, .bool false, .int .i64 0, .int .u64 0, .int .u64 0, .bool false, .bool false, .bool false, .bool false, .bool false]
      refine seq_run (.pointer (some ⟨wd.heap.size, 0, none⟩)) (wd.alloc (.cells #[.bool false, .int .u64 0, .bool false, .int .i64 0, .int .u64 0, .int .u64 0, .bool false, .bool false, .bool false, .bool false, .bool false] 66)) (by rfl) ?_ ((Below.refl _ _).alloc hs0 _) ?_; (simp [go_sem, execOp]); intro K hK; simp only [Act.put, List.setIfInBounds_toArray, List.set_cons_zero, List.set_cons_succ]; refine hK _ _ ?_; clear hK K
      replace HE := Lib.hid (HE.out.alloc (.cells #[.bool false, .int .u64 0, .bool false, .int .i64 0, .int .u64 0, .int .u64 0, .bool false, .bool false, .bool false, .bool false, .bool false] 66))
      refine seq_call (cfd _ HE.out) rfl Tryz.func125 (by kernel_rfl) (by kernel_rfl) (by rfl) (by rfl) ?_; intro K hK; rintro e w' ⟨rfl, hE⟩; refine ⟨_, rfl, (Below.mono hE HE.out.size), ?_⟩; simp only [Act.put, List.setIfInBounds_toArray, List.set_cons_zero, List.set_cons_succ]; refine hK _ _ ?_; clear hK K
      replace HE := Lib.hid (HE.out.trans hE)
      replace hn := hn.ext hE
      clear hE
      (repeat ((refine seq_read (by rfl) (by rfl) ?_; intro K hK; go_big_quiet_op; first | go_big_quiet_on | (refine ⟨_, fun _ _ => rfl, ?_⟩; go_big_quiet_on))))
      refine seq_store_row rfl rfl rfl (hn) (en_info _) (by simp [enC_size]) (enC_one _) (by rfl) ((below_row (Below.refl _ _) hs0 _)) ?_; intro K hK; simp only [Act.put]; refine hK _ _ ?_; clear hK K
      (repeat ((refine seq_read (by rfl) (by rfl) ?_; intro K hK; go_big_quiet_op; (go_big_quiet_on))))
      refine seq_done ?_
      go_wp2_with fail
      go_meet
      case rel => exact ⟨_, rfl, rfl, rfl, rfl, Lib.hid (hn.row _), Lib.hid hs0, HE.out.row hs0 _⟩
  case rest =>
    obtain ⟨z, rfl, rfl, rfl, rfl, hz, hzs, hE⟩ := hcut
    have h1 := hz.out
    have hzs := hzs.out
    replace HE := Lib.hid hE
    replace h3 := hb.ext hE
    clear hE hz cfd
    cases ok
    · have hF : hitH x.h x.k x.a = false := by rw [hq]; rfl
      clear cwy cal hfo
      go_wp2_with fail
      replace hb := Blk.drew hb; replace h1 := Blk.drew h1; replace h3 := Blk.drew h3; replace HE := Lib.hid HE.out.drew
      refine wp_region_seq [(0, false), (1, false), (2, false), (3, false), (4, false), (5, false), (6, false), (7, false), (8, false), (9, false), (10, false), (11, false), (12, false), (13, true), (14, true), (15, false), (16, false), (17, false), (18, false), (19, false), (20, false), (21, false), (22, false), (23, false), (24, false), (25, false), (26, false), (27, false), (28, false)] Ext (by kernel_rfl) (by kernel_rfl) Ext.refl (fun _ _ _ => Ext.trans) ?_; simp only [List.map, nth_z, nth_s]
      (repeat (first | (refine seq_skip (by rfl) ?_; intro K hK; simp only [Act.put, List.setIfInBounds_toArray, List.set_cons_zero, List.set_cons_succ]; refine hK _ ?_; clear hK K) | (refine seq_skipc (by rfl) ?_; intro K hK; simp only [Act.put, List.setIfInBounds_toArray, List.set_cons_zero, List.set_cons_succ]; refine hK _ ?_; clear hK K) | (refine seq_read (by rfl) (by rfl) ?_; intro K hK; go_big_quiet_op; first | go_big_quiet_on | (refine ⟨_, fun _ _ => rfl, ?_⟩; go_big_quiet_on))))
      refine seq_done ?_
      go_wp2
      go_ret2
      have hA' : recA x.h x.k x.a = 0 := by rw [hA, hF]; rfl
      have hL' : recL x.h x.k x.a = x.h := by rw [hL, hF]; rfl
      refine ⟨x.A, x.c, ?_, ?_, ?_, Only.ext (Nat.le_of_lt hg) HE.out⟩
      · rw [hA', hF]; rfl
      · rw [hL']; exact h3
      · rw [hL']; exact hrow _ HE.out
    obtain ⟨hi, hv, hl, hpp⟩ := hfo rfl
    cases P
    · have hF : hitH x.h x.k x.a = false := by rw [hq]; rfl
      go_wp2_with fail
      replace hb := Blk.drew hb; replace h1 := Blk.drew h1; replace h3 := Blk.drew h3; replace HE := Lib.hid HE.out.drew
      refine wp_region_seq [(0, false), (1, false), (2, false), (3, false), (4, false), (5, false), (6, false), (7, false), (8, false), (9, false), (10, false), (11, false), (12, false), (13, true), (14, true), (15, false), (16, false), (17, false), (18, false), (19, false), (20, false), (21, false), (22, false), (23, false), (24, false), (25, false), (26, false), (27, false), (28, false)] Ext (by kernel_rfl) (by kernel_rfl) Ext.refl (fun _ _ _ => Ext.trans) ?_; simp only [List.map, nth_z, nth_s]
      (repeat ((refine seq_read (by rfl) (by rfl) ?_; intro K hK; go_big_quiet_op; first | go_big_quiet_on | (refine ⟨_, fun _ _ => rfl, ?_⟩; go_big_quiet_on))))
      refine seq_load_part rfl rfl (fun x hx => Blk.ext (h1) hx) (enC_pm e) rfl Tryz.underlying64 (pm_info _) (by rfl) ?_; intro K hK; simp only [Act.put, List.setIfInBounds_toArray, List.set_cons_zero, List.set_cons_succ]; refine hK _ ?_; clear hK K
      (repeat (first | (refine seq_read (by rfl) (by rfl) ?_; intro K hK; go_big_quiet_op; first | go_big_quiet_on | (refine ⟨_, fun _ _ => rfl, ?_⟩; go_big_quiet_on)) | (refine seq_nil rfl rfl (by rfl) ?_; intro K hK; simp only [Act.put, List.setIfInBounds_toArray, List.set_cons_zero, List.set_cons_succ]; refine hK _ ?_; clear hK K)))
      refine seq_load_part rfl rfl (fun x hx => Blk.ext (h3) hx) (axC_hr x) rfl Tryz.underlying29 (hr_info _) (by rfl) ?_; intro K hK; simp only [Act.put, List.setIfInBounds_toArray, List.set_cons_zero, List.set_cons_succ]; refine hK _ ?_; clear hK K
      (repeat (first | (refine seq_read (by rfl) (by rfl) ?_; intro K hK; go_big_quiet_op; first | go_big_quiet_on | (refine ⟨_, fun _ _ => rfl, ?_⟩; go_big_quiet_on)) | (refine seq_nil rfl rfl (by rfl) ?_; intro K hK; simp only [Act.put, List.setIfInBounds_toArray, List.set_cons_zero, List.set_cons_succ]; refine hK _ ?_; clear hK K)))
      refine seq_value (.int .i64 (x.k : Int)) (by rfl) (fun x hx => by have hq := ext_cell hx (h3.ax.k); simp [go_sem, execOp, Act.eval, hq]) ?_; intro K hK; simp only [Act.put, List.setIfInBounds_toArray, List.set_cons_zero, List.set_cons_succ]; refine hK _ ?_; clear hK K
      skip
      refine seq_call (cwy _) rfl Tryz.func42 (by kernel_rfl) (by kernel_rfl) (by rfl) (by rfl) ?_; intro K hK; rintro e w' ⟨rfl, hE⟩; refine ⟨_, rfl, hE, ?_⟩; simp only [Act.put, List.setIfInBounds_toArray, List.set_cons_zero, List.set_cons_succ]; refine hK _ _ ?_; clear hK K; replace h1 := h1.ext hE; replace h3 := h3.ext hE; (replace HE := Lib.hid (HE.out.trans hE))
      clear hE cwy
      refine seq_call (cal _) rfl Tryz.func126 (by kernel_rfl) (by kernel_rfl) (by rfl) (by rfl) ?_; intro K hK; rintro e w' ⟨rfl, hE⟩; refine ⟨_, rfl, hE, ?_⟩; simp only [Act.put, List.setIfInBounds_toArray, List.set_cons_zero, List.set_cons_succ]; refine hK _ _ ?_; clear hK K; replace h1 := h1.ext hE; replace h3 := h3.ext hE; (replace HE := Lib.hid (HE.out.trans hE))
      clear hE cal
      (repeat (first | (refine seq_skip (by rfl) ?_; intro K hK; simp only [Act.put, List.setIfInBounds_toArray, List.set_cons_zero, List.set_cons_succ]; refine hK _ ?_; clear hK K) | (refine seq_read (by rfl) (by rfl) ?_; intro K hK; go_big_quiet_op; first | go_big_quiet_on | (refine ⟨_, fun _ _ => rfl, ?_⟩; go_big_quiet_on))))
      refine seq_done ?_
      go_wp2
      go_ret2
      have hA' : recA x.h x.k x.a = 0 := by rw [hA, hF]; rfl
      have hL' : recL x.h x.k x.a = x.h := by rw [hL, hF]; rfl
      refine ⟨x.A, x.c, ?_, ?_, ?_, Only.ext (Nat.le_of_lt hg) HE.out⟩
      · rw [hA', hF]; rfl
      · rw [hL']; exact h3
      · rw [hL']; exact hrow _ HE.out
    by_cases h2k : x.k = 2
    · have d2 : ((x.k : Int) == 2) = true := by rw [h2k]; rfl
      cases hd : e.d
      · have hF : hitH x.h x.k x.a = false := by rw [hq, hd, decide_eq_true h2k]; rfl
        go_wp2_with fail
        replace hb := Blk.drew hb; replace h1 := Blk.drew h1; replace h3 := Blk.drew h3; replace HE := Lib.hid HE.out.drew
        refine wp_region_seq [(0, false), (1, false), (2, false), (3, false), (4, false), (5, false), (6, false), (7, false), (8, false), (9, false), (10, false), (11, false), (12, false), (13, true), (14, true), (15, false), (16, false), (17, false), (18, false), (19, false), (20, false), (21, false), (22, false), (23, false), (24, false), (25, false), (26, false), (27, false), (28, false)] Ext (by kernel_rfl) (by kernel_rfl) Ext.refl (fun _ _ _ => Ext.trans) ?_; simp only [List.map, nth_z, nth_s]
        (repeat ((refine seq_read (by rfl) (by rfl) ?_; intro K hK; go_big_quiet_op; first | go_big_quiet_on | (refine ⟨_, fun _ _ => rfl, ?_⟩; go_big_quiet_on))))
        refine seq_load_part rfl rfl (fun x hx => Blk.ext (h1) hx) (enC_pm e) rfl Tryz.underlying64 (pm_info _) (by rfl) ?_; intro K hK; simp only [Act.put, List.setIfInBounds_toArray, List.set_cons_zero, List.set_cons_succ]; refine hK _ ?_; clear hK K
        (repeat (first | (refine seq_read (by rfl) (by rfl) ?_; intro K hK; go_big_quiet_op; first | go_big_quiet_on | (refine ⟨_, fun _ _ => rfl, ?_⟩; go_big_quiet_on)) | (refine seq_nil rfl rfl (by rfl) ?_; intro K hK; simp only [Act.put, List.setIfInBounds_toArray, List.set_cons_zero, List.set_cons_succ]; refine hK _ ?_; clear hK K)))
        refine seq_load_part rfl rfl (fun x hx => Blk.ext (h3) hx) (axC_hr x) rfl Tryz.underlying29 (hr_info _) (by rfl) ?_; intro K hK; simp only [Act.put, List.setIfInBounds_toArray, List.set_cons_zero, List.set_cons_succ]; refine hK _ ?_; clear hK K
        (repeat (first | (refine seq_read (by rfl) (by rfl) ?_; intro K hK; go_big_quiet_op; first | go_big_quiet_on | (refine ⟨_, fun _ _ => rfl, ?_⟩; go_big_quiet_on)) | (refine seq_nil rfl rfl (by rfl) ?_; intro K hK; simp only [Act.put, List.setIfInBounds_toArray, List.set_cons_zero, List.set_cons_succ]; refine hK _ ?_; clear hK K)))
        refine seq_value (.int .i64 (x.k : Int)) (by rfl) (fun x hx => by have hq := ext_cell hx (h3.ax.k); simp [go_sem, execOp, Act.eval, hq]) ?_; intro K hK; simp only [Act.put, List.setIfInBounds_toArray, List.set_cons_zero, List.set_cons_succ]; refine hK _ ?_; clear hK K
        skip
        refine seq_call (cwy _) rfl Tryz.func42 (by kernel_rfl) (by kernel_rfl) (by rfl) (by rfl) ?_; intro K hK; rintro e w' ⟨rfl, hE⟩; refine ⟨_, rfl, hE, ?_⟩; simp only [Act.put, List.setIfInBounds_toArray, List.set_cons_zero, List.set_cons_succ]; refine hK _ _ ?_; clear hK K; replace h1 := h1.ext hE; replace h3 := h3.ext hE; (replace HE := Lib.hid (HE.out.trans hE))
        clear hE cwy
        refine seq_call (cal _) rfl Tryz.func126 (by kernel_rfl) (by kernel_rfl) (by rfl) (by rfl) ?_; intro K hK; rintro e w' ⟨rfl, hE⟩; refine ⟨_, rfl, hE, ?_⟩; simp only [Act.put, List.setIfInBounds_toArray, List.set_cons_zero, List.set_cons_succ]; refine hK _ _ ?_; clear hK K; replace h1 := h1.ext hE; replace h3 := h3.ext hE; (replace HE := Lib.hid (HE.out.trans hE))
        clear hE cal
        (repeat (first | (refine seq_read (by rfl) (by rfl) ?_; intro K hK; go_big_quiet_op; first | go_big_quiet_on | (refine ⟨_, fun _ _ => rfl, ?_⟩; go_big_quiet_on)) | (refine seq_nil rfl rfl (by rfl) ?_; intro K hK; simp only [Act.put, List.setIfInBounds_toArray, List.set_cons_zero, List.set_cons_succ]; refine hK _ ?_; clear hK K)))
        refine seq_value (.int .i64 (x.k : Int)) (by rfl) (fun x hx => by have hq := ext_cell hx (h3.ax.k); simp [go_sem, execOp, Act.eval, hq]) ?_; intro K hK; simp only [Act.put, List.setIfInBounds_toArray, List.set_cons_zero, List.set_cons_succ]; refine hK _ ?_; clear hK K
        (repeat ((refine seq_read (by rfl) (by rfl) ?_; intro K hK; go_big_quiet_op; first | go_big_quiet_on | (refine ⟨_, fun _ _ => rfl, ?_⟩; go_big_quiet_on))))
        refine seq_value (.bool e.d) (by rfl) (fun x hx => by have hq := ext_cell hx (h1.en_d); simp [go_sem, execOp, Act.eval, hq]) ?_; intro K hK; simp only [Act.put, List.setIfInBounds_toArray, List.set_cons_zero, List.set_cons_succ]; refine hK _ ?_; clear hK K
        rw [hd]
        (repeat ((refine seq_read (by rfl) (by rfl) ?_; intro K hK; go_big_quiet_op; (refine ⟨_, fun _ _ => rfl, ?_⟩; go_big_quiet_on))))
        refine seq_done ?_
        go_wp2
        go_ret2
        have hA' : recA x.h x.k x.a = 0 := by rw [hA, hF]; rfl
        have hL' : recL x.h x.k x.a = x.h := by rw [hL, hF]; rfl
        refine ⟨x.A, x.c, ?_, ?_, ?_, Only.ext (Nat.le_of_lt hg) HE.out⟩
        · rw [hA', hF]; rfl
        · rw [hL']; exact h3
        · rw [hL']; exact hrow _ HE.out
      · have hF : hitH x.h x.k x.a = true := by rw [hq, hd]; simp
        go_wp2_with fail
        replace hb := Blk.drew hb; replace h1 := Blk.drew h1; replace h3 := Blk.drew h3; replace HE := Lib.hid HE.out.drew
        refine wp_region_seq [(0, false), (1, false), (2, false), (3, false), (4, false), (5, false), (6, false), (7, false), (8, false), (9, false), (10, false), (11, false), (12, false), (13, true), (14, true), (15, false), (16, false), (17, false), (18, false), (19, false), (20, false), (21, false), (22, false), (23, false), (24, false), (25, false), (26, false), (27, false), (28, false)] Ext (by kernel_rfl) (by kernel_rfl) Ext.refl (fun _ _ _ => Ext.trans) ?_; simp only [List.map, nth_z, nth_s]
        (repeat ((refine seq_read (by rfl) (by rfl) ?_; intro K hK; go_big_quiet_op; first | go_big_quiet_on | (refine ⟨_, fun _ _ => rfl, ?_⟩; go_big_quiet_on))))
        refine seq_load_part rfl rfl (fun x hx => Blk.ext (h1) hx) (enC_pm e) rfl Tryz.underlying64 (pm_info _) (by rfl) ?_; intro K hK; simp only [Act.put, List.setIfInBounds_toArray, List.set_cons_zero, List.set_cons_succ]; refine hK _ ?_; clear hK K
        (repeat (first | (refine seq_read (by rfl) (by rfl) ?_; intro K hK; go_big_quiet_op; first | go_big_quiet_on | (refine ⟨_, fun _ _ => rfl, ?_⟩; go_big_quiet_on)) | (refine seq_nil rfl rfl (by rfl) ?_; intro K hK; simp only [Act.put, List.setIfInBounds_toArray, List.set_cons_zero, List.set_cons_succ]; refine hK _ ?_; clear hK K)))
        refine seq_load_part rfl rfl (fun x hx => Blk.ext (h3) hx) (axC_hr x) rfl Tryz.underlying29 (hr_info _) (by rfl) ?_; intro K hK; simp only [Act.put, List.setIfInBounds_toArray, List.set_cons_zero, List.set_cons_succ]; refine hK _ ?_; clear hK K
        (repeat (first | (refine seq_read (by rfl) (by rfl) ?_; intro K hK; go_big_quiet_op; first | go_big_quiet_on | (refine ⟨_, fun _ _ => rfl, ?_⟩; go_big_quiet_on)) | (refine seq_nil rfl rfl (by rfl) ?_; intro K hK; simp only [Act.put, List.setIfInBounds_toArray, List.set_cons_zero, List.set_cons_succ]; refine hK _ ?_; clear hK K)))
        refine seq_value (.int .i64 (x.k : Int)) (by rfl) (fun x hx => by have hq := ext_cell hx (h3.ax.k); simp [go_sem, execOp, Act.eval, hq]) ?_; intro K hK; simp only [Act.put, List.setIfInBounds_toArray, List.set_cons_zero, List.set_cons_succ]; refine hK _ ?_; clear hK K
        skip
        refine seq_call (cwy _) rfl Tryz.func42 (by kernel_rfl) (by kernel_rfl) (by rfl) (by rfl) ?_; intro K hK; rintro e w' ⟨rfl, hE⟩; refine ⟨_, rfl, hE, ?_⟩; simp only [Act.put, List.setIfInBounds_toArray, List.set_cons_zero, List.set_cons_succ]; refine hK _ _ ?_; clear hK K; replace h1 := h1.ext hE; replace h3 := h3.ext hE; (replace HE := Lib.hid (HE.out.trans hE))
        clear hE cwy
        refine seq_call (cal _) rfl Tryz.func126 (by kernel_rfl) (by kernel_rfl) (by rfl) (by rfl) ?_; intro K hK; rintro e w' ⟨rfl, hE⟩; refine ⟨_, rfl, hE, ?_⟩; simp only [Act.put, List.setIfInBounds_toArray, List.set_cons_zero, List.set_cons_succ]; refine hK _ _ ?_; clear hK K; replace h1 := h1.ext hE; replace h3 := h3.ext hE; (replace HE := Lib.hid (HE.out.trans hE))
        clear hE cal
        (repeat (first | (refine seq_read (by rfl) (by rfl) ?_; intro K hK; go_big_quiet_op; first | go_big_quiet_on | (refine ⟨_, fun _ _ => rfl, ?_⟩; go_big_quiet_on)) | (refine seq_nil rfl rfl (by rfl) ?_; intro K hK; simp only [Act.put, List.setIfInBounds_toArray, List.set_cons_zero, List.set_cons_succ]; refine hK _ ?_; clear hK K)))
        refine seq_value (.int .i64 (x.k : Int)) (by rfl) (fun x hx => by have hq := ext_cell hx (h3.ax.k); simp [go_sem, execOp, Act.eval, hq]) ?_; intro K hK; simp only [Act.put, List.setIfInBounds_toArray, List.set_cons_zero, List.set_cons_succ]; refine hK _ ?_; clear hK K
        (repeat ((refine seq_read (by rfl) (by rfl) ?_; intro K hK; go_big_quiet_op; first | go_big_quiet_on | (refine ⟨_, fun _ _ => rfl, ?_⟩; go_big_quiet_on))))
        refine seq_value (.bool e.d) (by rfl) (fun x hx => by have hq := ext_cell hx (h1.en_d); simp [go_sem, execOp, Act.eval, hq]) ?_; intro K hK; simp only [Act.put, List.setIfInBounds_toArray, List.set_cons_zero, List.set_cons_succ]; refine hK _ ?_; clear hK K
        rw [hd]
        (repeat ((refine seq_read (by rfl) (by rfl) ?_; intro K hK; go_big_quiet_op; (refine ⟨_, fun _ _ => rfl, ?_⟩; go_big_quiet_on))))
        refine seq_done ?_
        have cus := use14p_c x.A x.h.L x.c (by omega) i v hi hv (right_t (rt_s hrt hi)) _ (hrow _ HE.out) (hTE _ HE.out).s
        go_wp2_with (refine wpList_load_part (by rfl) 24 _ rfl rfl h3 (axC_tlb x) Tryz.underlying24 rfl (tb_info _) ?_)
        refine cus.mono ?_
        rintro r5 w5 ⟨A5, c5, rfl, hr5, -, hE⟩
        replace h1 := h1.ext hE
        replace h3 := h3.ext hE
        replace HE := Lib.hid (HE.out.trans hE)
        clear hE cus
        have HO := Lib.hid ((Only.ext (Nat.le_of_lt hg) HE.out).trans (Only.row w5 g (axC { x with A := A5, c := c5, h := { x.h with L := useT x.h.L i v } })))
        replace hr5 := hr5.set h3 (by rw [axC_size]; decide) (axC { x with A := A5, c := c5, h := { x.h with L := useT x.h.L i v } })
        replace h1 := h1.apart (show z ≠ g by omega) (axC { x with A := A5, c := c5, h := { x.h with L := useT x.h.L i v } })
        have h3k := h3
        replace h3 := h3.row (axC { x with A := A5, c := c5, h := { x.h with L := useT x.h.L i v } })
        go_wp2_with (refine wpList_store_part rfl 24 _ _ rfl rfl rfl h3k (by rw [axC_size]; show 0 + 1 ≤ 14; decide) (axC_put0 x rfl) (tb_info _) (tbx_one _ _ _) ?_)
        clear h3k HE
        generalize w5.setRow g (axC { x with A := A5, c := c5, h := { x.h with L := useT x.h.L i v } }) = X at *
        have HE := Lib.hid (Ext.refl X)
        have hr6 : ∀ W : World, Ext X W → RowV KS W A5 (useT x.h.L i v) c5 := fun W h => hr5.ext h
        have hTX : ∀ W : World, Ext X W → Layh W := fun W h => hT W (HO.out.up hg h)
        have cph := fun W h => physical12_c e hl.l0 hl.l2 hpp (x.a : Int) (by omega) (by omega) W h
        replace hb := Blk.drew hb; replace h1 := Blk.drew h1; replace h3 := Blk.drew h3; replace HE := Lib.hid HE.out.drew
        refine wp_region_seq [(0, false), (1, false), (2, false), (3, false), (4, false), (5, true), (6, false), (7, false)] Ext (by kernel_rfl) (by kernel_rfl) Ext.refl (fun _ _ _ => Ext.trans) ?_; simp only [List.map, nth_z, nth_s]
        refine seq_load rfl rfl (fun x hx => Blk.ext (h1) hx) rfl Tryz.underlying66 (en_info _) (by rfl) ?_; intro K hK; simp only [Act.put, List.setIfInBounds_toArray, List.set_cons_zero, List.set_cons_succ]; refine hK _ ?_; clear hK K
        (repeat (first | (refine seq_read (by rfl) (by rfl) ?_; intro K hK; go_big_quiet_op; first | go_big_quiet_on | (refine ⟨_, fun _ _ => rfl, ?_⟩; go_big_quiet_on)) | (refine seq_nil rfl rfl (by rfl) ?_; intro K hK; simp only [Act.put, List.setIfInBounds_toArray, List.set_cons_zero, List.set_cons_succ]; refine hK _ ?_; clear hK K)))
        refine seq_value (.int .u64 (x.a : Int)) (by rfl) (fun x hx => by have hq := ext_cell hx (h3.ax.a); simp [go_sem, execOp, Act.eval, hq]) ?_; intro K hK; simp only [Act.put, List.setIfInBounds_toArray, List.set_cons_zero, List.set_cons_succ]; refine hK _ ?_; clear hK K
        skip
        refine seq_call (cph _ (hTX _ HE.out).t.1) rfl Tryz.func128 (by kernel_rfl) (by kernel_rfl) (by rfl) (by rfl) ?_; intro K hK; rintro e w' ⟨rfl, hE⟩; refine ⟨_, rfl, hE, ?_⟩; simp only [Act.put, List.setIfInBounds_toArray, List.set_cons_zero, List.set_cons_succ]; refine hK _ _ ?_; clear hK K; replace h1 := h1.ext hE; replace h3 := h3.ext hE; (replace HE := Lib.hid (HE.out.trans hE))
        clear hE cph
        (repeat ((refine seq_read (by rfl) (by rfl) ?_; intro K hK; go_big_quiet_op; (go_big_quiet_on))))
        refine seq_done ?_
        go_wp2
        go_ret2
        have hA' : ((recA x.h x.k x.a : Nat) : Int) = phyE e (x.a : Int) := by rw [hA, hF, if_pos rfl]; exact Int.toNat_of_nonneg (phy_nn _ _)
        have hL' : recL x.h x.k x.a = { x.h with L := useT x.h.L i v } := by rw [hL, hF]; rfl
        refine ⟨A5, c5, ?_, ?_, ?_, HO.out.up hg HE.out⟩
        · rw [hA', hF]; rfl
        · rw [hL']; exact h3
        · rw [hL']; exact hr6 _ HE.out
    · have d2 : ((x.k : Int) == 2) = false := by rw [beq_eq_false_iff_ne]; omega
      have hF : hitH x.h x.k x.a = true := by rw [hq, decide_eq_false h2k]; rfl
      go_wp2_with fail
      replace hb := Blk.drew hb; replace h1 := Blk.drew h1; replace h3 := Blk.drew h3; replace HE := Lib.hid HE.out.drew
      refine wp_region_seq [(0, false), (1, false), (2, false), (3, false), (4, false), (5, false), (6, false), (7, false), (8, false), (9, false), (10, false), (11, false), (12, false), (13, true), (14, true), (15, false), (16, false), (17, false), (18, false), (19, false), (20, false), (21, false), (22, false), (23, false), (24, false), (25, false), (26, false), (27, false), (28, false)] Ext (by kernel_rfl) (by kernel_rfl) Ext.refl (fun _ _ _ => Ext.trans) ?_; simp only [List.map, nth_z, nth_s]
      (repeat ((refine seq_read (by rfl) (by rfl) ?_; intro K hK; go_big_quiet_op; first | go_big_quiet_on | (refine ⟨_, fun _ _ => rfl, ?_⟩; go_big_quiet_on))))
      refine seq_load_part rfl rfl (fun x hx => Blk.ext (h1) hx) (enC_pm e) rfl Tryz.underlying64 (pm_info _) (by rfl) ?_; intro K hK; simp only [Act.put, List.setIfInBounds_toArray, List.set_cons_zero, List.set_cons_succ]; refine hK _ ?_; clear hK K
      (repeat (first | (refine seq_read (by rfl) (by rfl) ?_; intro K hK; go_big_quiet_op; first | go_big_quiet_on | (refine ⟨_, fun _ _ => rfl, ?_⟩; go_big_quiet_on)) | (refine seq_nil rfl rfl (by rfl) ?_; intro K hK; simp only [Act.put, List.setIfInBounds_toArray, List.set_cons_zero, List.set_cons_succ]; refine hK _ ?_; clear hK K)))
      refine seq_load_part rfl rfl (fun x hx => Blk.ext (h3) hx) (axC_hr x) rfl Tryz.underlying29 (hr_info _) (by rfl) ?_; intro K hK; simp only [Act.put, List.setIfInBounds_toArray, List.set_cons_zero, List.set_cons_succ]; refine hK _ ?_; clear hK K
      (repeat (first | (refine seq_read (by rfl) (by rfl) ?_; intro K hK; go_big_quiet_op; first | go_big_quiet_on | (refine ⟨_, fun _ _ => rfl, ?_⟩; go_big_quiet_on)) | (refine seq_nil rfl rfl (by rfl) ?_; intro K hK; simp only [Act.put, List.setIfInBounds_toArray, List.set_cons_zero, List.set_cons_succ]; refine hK _ ?_; clear hK K)))
      refine seq_value (.int .i64 (x.k : Int)) (by rfl) (fun x hx => by have hq := ext_cell hx (h3.ax.k); simp [go_sem, execOp, Act.eval, hq]) ?_; intro K hK; simp only [Act.put, List.setIfInBounds_toArray, List.set_cons_zero, List.set_cons_succ]; refine hK _ ?_; clear hK K
      skip
      refine seq_call (cwy _) rfl Tryz.func42 (by kernel_rfl) (by kernel_rfl) (by rfl) (by rfl) ?_; intro K hK; rintro e w' ⟨rfl, hE⟩; refine ⟨_, rfl, hE, ?_⟩; simp only [Act.put, List.setIfInBounds_toArray, List.set_cons_zero, List.set_cons_succ]; refine hK _ _ ?_; clear hK K; replace h1 := h1.ext hE; replace h3 := h3.ext hE; (replace HE := Lib.hid (HE.out.trans hE))
      clear hE cwy
      refine seq_call (cal _) rfl Tryz.func126 (by kernel_rfl) (by kernel_rfl) (by rfl) (by rfl) ?_; intro K hK; rintro e w' ⟨rfl, hE⟩; refine ⟨_, rfl, hE, ?_⟩; simp only [Act.put, List.setIfInBounds_toArray, List.set_cons_zero, List.set_cons_succ]; refine hK _ _ ?_; clear hK K; replace h1 := h1.ext hE; replace h3 := h3.ext hE; (replace HE := Lib.hid (HE.out.trans hE))
      clear hE cal
      (repeat (first | (refine seq_read (by rfl) (by rfl) ?_; intro K hK; go_big_quiet_op; first | go_big_quiet_on | (refine ⟨_, fun _ _ => rfl, ?_⟩; go_big_quiet_on)) | (refine seq_nil rfl rfl (by rfl) ?_; intro K hK; simp only [Act.put, List.setIfInBounds_toArray, List.set_cons_zero, List.set_cons_succ]; refine hK _ ?_; clear hK K)))
      refine seq_value (.int .i64 (x.k : Int)) (by rfl) (fun x hx => by have hq := ext_cell hx (h3.ax.k); simp [go_sem, execOp, Act.eval, hq]) ?_; intro K hK; simp only [Act.put, List.setIfInBounds_toArray, List.set_cons_zero, List.set_cons_succ]; refine hK _ ?_; clear hK K
      (repeat (first | (refine seq_skip (by rfl) ?_; intro K hK; simp only [Act.put, List.setIfInBounds_toArray, List.set_cons_zero, List.set_cons_succ]; refine hK _ ?_; clear hK K) | (refine seq_read (by rfl) (by rfl) ?_; intro K hK; go_big_quiet_op; first | go_big_quiet_on | (refine ⟨_, fun _ _ => rfl, ?_⟩; go_big_quiet_on))))
      skip
      refine seq_done ?_
      have cus := use14p_c x.A x.h.L x.c (by omega) i v hi hv (right_t (rt_s hrt hi)) _ (hrow _ HE.out) (hTE _ HE.out).s
      go_wp2_with (refine wpList_load_part (by rfl) 24 _ rfl rfl h3 (axC_tlb x) Tryz.underlying24 rfl (tb_info _) ?_)
      refine cus.mono ?_
      rintro r5 w5 ⟨A5, c5, rfl, hr5, -, hE⟩
      replace h1 := h1.ext hE
      replace h3 := h3.ext hE
      replace HE := Lib.hid (HE.out.trans hE)
      clear hE cus
      have HO := Lib.hid ((Only.ext (Nat.le_of_lt hg) HE.out).trans (Only.row w5 g (axC { x with A := A5, c := c5, h := { x.h with L := useT x.h.L i v } })))
      replace hr5 := hr5.set h3 (by rw [axC_size]; decide) (axC { x with A := A5, c := c5, h := { x.h with L := useT x.h.L i v } })
      replace h1 := h1.apart (show z ≠ g by omega) (axC { x with A := A5, c := c5, h := { x.h with L := useT x.h.L i v } })
      have h3k := h3
      replace h3 := h3.row (axC { x with A := A5, c := c5, h := { x.h with L := useT x.h.L i v } })
      go_wp2_with (refine wpList_store_part rfl 24 _ _ rfl rfl rfl h3k (by rw [axC_size]; show 0 + 1 ≤ 14; decide) (axC_put0 x rfl) (tb_info _) (tbx_one _ _ _) ?_)
      clear h3k HE
      generalize w5.setRow g (axC { x with A := A5, c := c5, h := { x.h with L := useT x.h.L i v } }) = X at *
      have HE := Lib.hid (Ext.refl X)
      have hr6 : ∀ W : World, Ext X W → RowV KS W A5 (useT x.h.L i v) c5 := fun W h => hr5.ext h
      have hTX : ∀ W : World, Ext X W → Layh W := fun W h => hT W (HO.out.up hg h)
      have cph := fun W h => physical12_c e hl.l0 hl.l2 hpp (x.a : Int) (by omega) (by omega) W h
      replace hb := Blk.drew hb; replace h1 := Blk.drew h1; replace h3 := Blk.drew h3; replace HE := Lib.hid HE.out.drew
      refine wp_region_seq [(0, false), (1, false), (2, false), (3, false), (4, false), (5, true), (6, false), (7, false)] Ext (by kernel_rfl) (by kernel_rfl) Ext.refl (fun _ _ _ => Ext.trans) ?_; simp only [List.map, nth_z, nth_s]
      refine seq_load rfl rfl (fun x hx => Blk.ext (h1) hx) rfl Tryz.underlying66 (en_info _) (by rfl) ?_; intro K hK; simp only [Act.put, List.setIfInBounds_toArray, List.set_cons_zero, List.set_cons_succ]; refine hK _ ?_; clear hK K
      (repeat (first | (refine seq_read (by rfl) (by rfl) ?_; intro K hK; go_big_quiet_op; first | go_big_quiet_on | (refine ⟨_, fun _ _ => rfl, ?_⟩; go_big_quiet_on)) | (refine seq_nil rfl rfl (by rfl) ?_; intro K hK; simp only [Act.put, List.setIfInBounds_toArray, List.set_cons_zero, List.set_cons_succ]; refine hK _ ?_; clear hK K)))
      refine seq_value (.int .u64 (x.a : Int)) (by rfl) (fun x hx => by have hq := ext_cell hx (h3.ax.a); simp [go_sem, execOp, Act.eval, hq]) ?_; intro K hK; simp only [Act.put, List.setIfInBounds_toArray, List.set_cons_zero, List.set_cons_succ]; refine hK _ ?_; clear hK K
      skip
      refine seq_call (cph _ (hTX _ HE.out).t.1) rfl Tryz.func128 (by kernel_rfl) (by kernel_rfl) (by rfl) (by rfl) ?_; intro K hK; rintro e w' ⟨rfl, hE⟩; refine ⟨_, rfl, hE, ?_⟩; simp only [Act.put, List.setIfInBounds_toArray, List.set_cons_zero, List.set_cons_succ]; refine hK _ _ ?_; clear hK K; replace h1 := h1.ext hE; replace h3 := h3.ext hE; (replace HE := Lib.hid (HE.out.trans hE))
      clear hE cph
      (repeat ((refine seq_read (by rfl) (by rfl) ?_; intro K hK; go_big_quiet_op; (go_big_quiet_on))))
      refine seq_done ?_
      go_wp2
      go_ret2
      have hA' : ((recA x.h x.k x.a : Nat) : Int) = phyE e (x.a : Int) := by rw [hA, hF, if_pos rfl]; exact Int.toNat_of_nonneg (phy_nn _ _)
      have hL' : recL x.h x.k x.a = { x.h with L := useT x.h.L i v } := by rw [hL, hF]; rfl
      refine ⟨A5, c5, ?_, ?_, ?_, HO.out.up hg HE.out⟩
      · rw [hA', hF]; rfl
      · rw [hL']; exact h3
      · rw [hL']; exact hr6 _ HE.out
end Go.Proofs.YtlhoedpencmikaaGreatDoor
/- Package hart: walk (an access led by the tables). -/
namespace Go.Proofs.YtlhoedpencmikaaGreatDoor
open Go.ChangeShapes Go.WideShapes Go.ChangeAt Go.RowKit
set_option linter.unusedVariables false
set_option linter.unusedSimpArgs false
set_option maxRecDepth 10000

theorem put14_any (A : Option Addr) (L : List St) (c : Nat) (e : En) (v : Int) (hrt : rightT L = true) (hm : mayE e = true) (hv : e.v = true) (w : World) (hr : RowV KS w A L c) (hT : Lays w) :
    Calls Tryz.prog 28 #[.agg #[.slice A L.length c], .agg (enC e), .int .i64 v] w (TlbR (putT e v L) w) := by
  have hl := rt_len hrt
  rcases Nat.eq_zero_or_pos L.length with h0 | hp
  · obtain rfl := List.eq_nil_of_length_eq_zero h0
    exact (put14p_nil A c e v w).mono fun r w' ⟨h1, hE⟩ => ⟨A, c, by rw [putT_nil rfl]; exact h1, by rw [putT_nil rfl]; exact hr.ext hE, hE⟩
  · have k := may_v hm hv
    exact (put14p_c A L c (by omega) hp e v k.l0 k.l2 (by have := (may_lt hm).1; omega) (right_t (rt_s hrt (ix_lt hp _ _))) w hr hT).mono fun r w' ⟨A', c', h1, h2, _, h4⟩ => ⟨A', c', h1, h2, h4⟩
def wkS (x : Ax) : Nat := walkS x.S x.M x.h.sp.pp x.a (wayH x.h x.k)
def wkF (x : Ax) : Lf := walkF x.S x.M x.h.sp.pp x.a (wayH x.h x.k)
def wkM (x : Ax) : List (Nat × Nat) := walkL x.S x.M x.h.sp.pp x.a (wayH x.h x.k)
def wkH (x : Ax) : Hr := if wkS x = 0 then { x.h with L := putT (ofE (wkF x) x.a x.h.sp.ai) x.h.vi x.h.L, vi := -1 } else x.h
def wkA (x : Ax) : Nat := if wkS x = 0 then phyN (wkF x) x.a else 0
/-- what the tables' way leaves -/
def Led (g : Nat) (x : Ax) (w : World) (r : Ending) (w' : World) : Prop :=
  ∃ A c B d, r = .returned (.tuple #[.int .u64 ((wkA x : Nat) : Int), .agg (ftC (fltF (wkS x) x.k x.a))]) ∧ Blk w' g 100 (axC { x with A := A, c := c, h := wkH x, B := B, M := wkM x, d := d }) ∧ RowV KS w' A (wkH x).L c ∧ Mem w' x.S B (wkM x) d ∧ (∀ lo hi, hi ≤ w.heap.size → Out lo hi x.B x.M.length → Out lo hi B (wkM x).length) ∧ Only g w w'
theorem walk_leaf {S : Nat} {M : List (Nat × Nat)} {r a n : Nat} {y : Wy} (hM : RL (S / 8) M) (ha : a < 18446744073709551616) (hn : n < 65536) (h : walkS S M r a y = 0) :
    mayE (ofE (walkF S M r a y) a n) = true ∧ (ofE (walkF S M r a y) a n).v = true ∧ (walkF S M r a y).pt.pp < 17592186044416 ∧ 0 ≤ (walkF S M r a y).lv ∧ (walkF S M r a y).lv ≤ 2 := by
  have P := puts (n := n) hM ha hn h
  obtain ⟨-, -, e3⟩ := walk_yes P.so P.al
  have hlv : (walkF S M r a y).lv = (lookN S M r a).lf.lv := (congrArg Lf.lv e3).trans (upd_lv _ _)
  have hpt : (walkF S M r a y).pt = usedP (lookN S M r a).lf.pt (y.kd == 2) := (congrArg Lf.pt e3).trans (upd_pt _ _)
  have hpp : (usedP (lookN S M r a).lf.pt (y.kd == 2)).pp = (lookN S M r a).lf.pt.pp := used_pp _ _
  have hg := (leaf_g P.lf).2.2
  have hl := P.lf
  have h1 := P.may
  have h2 := P.v
  clear e3 P
  generalize walkF S M r a y = F at *
  refine ⟨h1, h2, ?_, ?_, ?_⟩
  · rw [hpt, hpp, hg]; exact ent_pp _ _
  · rw [hlv]; exact hl.l0
  · rw [hlv]; exact hl.l2
set_option maxRecDepth 100000 in
set_option maxHeartbeats 8000000 in
theorem walk16_c (x0 : Ax) (hr : rightH x0.h = true) (hk : x0.k < 3) (a1 : x0.a < 18446744073709551616) (hok : x0.h.ok) (g : Nat) (w : World) (hb : Blk w g 100 (axC x0)) (hrw : RowV KS w x0.A x0.h.L x0.c) (hM : Mem w x0.S x0.B x0.M x0.d) (hf : x0.M.length ≤ 999) (ho : Out g (g + 1) x0.B x0.M.length) (hT : ∀ w', Only g w w' → Layh w') :
    Calls Tryz.prog 82 #[.pointer (some ⟨g, 0, none⟩)] w (Led g x0 w) := by
  have hg := hb.lt
  have h2 : Blk (w.alloc (.cells #[.bool false, .int .i64 0, .int .u64 0] 54)) w.heap.size 54 #[.bool false, .int .i64 0, .int .u64 0] := Blk.new w _ _
  have HE := Lib.hid ((Ext.refl w).alloc (.cells #[.bool false, .int .i64 0, .int .u64 0] 54))
  have h3 := hb.ext HE.out
  have hTE : ∀ W : World, Ext w W → Layh W := fun W h => hT W (Only.ext (Nat.le_of_lt hg) h)
  obtain ⟨hrt, hsm, hpr⟩ := right_split hr
  have hw := way_is hr hk
  have h16 := rt_len hrt
  obtain ⟨-, hai, hpp⟩ := sm_fits hsm
  have hkd : (wayH x0.h x0.k).kd.toNat = x0.k := by rw [way_lit]; rfl
  have cwy := fun W => way16_c x0.A x0.h x0.c x0.k W
  have cwk := fun W (h : Mem W x0.S x0.B x0.M x0.d) (t : Layh W) => walk_c h hf hpp a1 (wayH x0.h x0.k) hw t.t
  unfold Walked at cwk
  rw [hkd] at cwk
  have hy : walkS x0.S x0.M x0.h.sp.pp x0.a (wayH x0.h x0.k) = 0 → mayE (ofE (walkF x0.S x0.M x0.h.sp.pp x0.a (wayH x0.h x0.k)) x0.a x0.h.sp.ai) = true ∧ (ofE (walkF x0.S x0.M x0.h.sp.pp x0.a (wayH x0.h x0.k)) x0.a x0.h.sp.ai).v = true ∧
      (walkF x0.S x0.M x0.h.sp.pp x0.a (wayH x0.h x0.k)).pt.pp < 17592186044416 ∧ 0 ≤ (walkF x0.S x0.M x0.h.sp.pp x0.a (wayH x0.h x0.k)).lv ∧ (walkF x0.S x0.M x0.h.sp.pp x0.a (wayH x0.h x0.k)).lv ≤ 2 := fun hs => by
    exact walk_leaf hM.rl a1 hai hs
  have hML : (walkL x0.S x0.M x0.h.sp.pp x0.a (wayH x0.h x0.k)) = wkM x0 := by unfold wkM; rfl
  have hFL : (walkF x0.S x0.M x0.h.sp.pp x0.a (wayH x0.h x0.k)) = wkF x0 := by unfold wkF; rfl
  have hSL : (walkS x0.S x0.M x0.h.sp.pp x0.a (wayH x0.h x0.k)) = wkS x0 := by unfold wkS; rfl
  rw [hML, hFL, hSL] at cwk
  rw [hFL, hSL] at hy
  have hAq : wkA x0 = if wkS x0 = 0 then phyN (wkF x0) x0.a else 0 := by unfold wkA; rfl
  have hHq : wkH x0 = if wkS x0 = 0 then { x0.h with L := putT (ofE (wkF x0) x0.a x0.h.sp.ai) x0.h.vi x0.h.L, vi := -1 } else x0.h := by unfold wkH; rfl
  have hFb : (fltF (wkS x0) x0.k x0.a).b = !decide (wkS x0 = 0) := by
    by_cases h : wkS x0 = 0
    · rw [h, flt_zero]; rfl
    · rw [flt_eq h, decide_eq_false h]; rfl
  have hKM : wkS x0 ≠ 0 → wkM x0 = x0.M := fun h => by unfold wkM walkL; rw [if_neg (by rw [hSL]; exact h)]
  clear hML hFL hSL
  unfold Led
  generalize wkM x0 = K at *
  generalize wkF x0 = Fl at *
  generalize hFf : fltF (wkS x0) x0.k x0.a = Ff at *
  have HFf := Lib.hid hFf
  clear hFf
  generalize wkS x0 = so at *
  generalize wayH x0.h x0.k = y at *
  go_enter Tryz.func82, Tryz.ntmps82
  go_wp2_with fail
  generalize w.alloc (.cells #[.bool false, .int .i64 0, .int .u64 0] 54) = W1 at *
  replace hb := Blk.drew hb; replace h2 := Blk.drew h2; replace h3 := Blk.drew h3; replace HE := Lib.hid HE.out.drew
  have h2l := h2.lt
  have hM0 := (hM.ext HE.out)
  have hTw : ∀ W, Ext W1.drew W → Layh W := fun W h => hTE W (HE.out.trans h)
  have hMo : ∀ j, W1.drew.heap.size ≤ j → Out j (j + 1) x0.B x0.M.length := fun j hj => (hM0.out (j + 1)).one hj (Nat.lt_succ_self _)
  have hgW : g < W1.drew.heap.size := h3.lt
  -- GEN
  refine wp_region_puts (X := (Nat → Nat) × (Option Addr × Nat)) (fun x => [(some 8, .pointer (some ⟨g, 0, none⟩)), (some 9, .pointer (some ⟨g, 0, none⟩)), (some 10, .pointer (some ⟨g, 8, none⟩)), (some 11, .agg #[.int .u64 (x0.S : Int), .slice x0.B x0.M.length x0.d]), (some 12, .pointer (some ⟨g, 0, none⟩)), (some 13, .pointer (some ⟨g, 0, none⟩)), (some 14, .pointer (some ⟨g, 0, none⟩)), (some 15, .pointer (some ⟨g, 1, none⟩)), (some 16, .pointer (some ⟨g, 3, none⟩)), (some 17, .int .u64 (x0.h.sp.pp : Int)), (some 18, .pointer (some ⟨g, 0, none⟩)), (some 19, .pointer (some ⟨g, 0, none⟩)), (some 20, .pointer (some ⟨g, 11, none⟩)), (some 21, .int .u64 (x0.a : Int)), (some 22, .pointer (some ⟨g, 0, none⟩)), (some 23, .pointer (some ⟨g, 0, none⟩)), (some 24, .pointer (some ⟨g, 0, none⟩)), (some 25, .agg (hrC ⟨x0.A, x0.c, x0.h⟩)), (some 26, .pointer (some ⟨g, 0, none⟩)), (some 27, .pointer (some ⟨g, 0, none⟩)), (some 28, .pointer (some ⟨g, 10, none⟩)), (some 29, .int .i64 (x0.k : Int)), (some 30, .agg (wyC y)), (some 31, .tuple #[.agg #[.int .u64 (x0.S : Int), .slice x.2.1 K.length x.2.2], .agg (lfC Fl), .agg (ftC Ff)]), (some 7, .tuple #[.agg #[.int .u64 (x0.S : Int), .slice x.2.1 K.length x.2.2], .agg (lfC Fl), .agg (ftC Ff)]), (some 32, .agg #[.int .u64 (x0.S : Int), .slice x.2.1 K.length x.2.2]), (some 33, .agg (lfC Fl)), (some 34, .agg (ftC Ff)), (some 4, .pointer (some ⟨x.1 0, 0, none⟩)), (some 5, .pointer (some ⟨x.1 1, 0, none⟩)), (some 6, .pointer (some ⟨x.1 2, 0, none⟩)), (none, undef), (none, undef), (none, undef)]) (fun x bs w => FB W1.drew 23 (fun y w => Mem w x0.S y.1 K y.2 ∧ ∀ lo hi, hi ≤ W1.drew.heap.size → Out lo hi x0.B x0.M.length → Out lo hi y.1 K.length) (fun y j => Out j (j + 1) y.1 K.length) [⟨28, 31, 32, #[.int .u64 0, .slice none 0 0], fun y => #[.int .u64 (x0.S : Int), .slice y.1 K.length y.2]⟩, ⟨29, 32, 75, #[.int .i64 0, .int .u64 0, .bool false, .bool false, .bool false, .bool false, .bool false, .bool false, .bool false, .bool false, .int .u64 0, .int .u64 0, .int .u64 0], fun _ => lfC Fl⟩, ⟨30, 33, 54, #[.bool false, .int .i64 0, .int .u64 0], fun _ => ftC Ff⟩] x bs w ∧ Dep [24, 25] 23 bs) (by kernel_rfl) (by kernel_rfl) (fun _ => 0, (none, 0)) ⟨FB.start fun _ => not_yet, Dep.start _ _ _⟩ ?_ ?_
  · intro x bs wz q o hlen hk hbk hafter hFD
    obtain ⟨hF, hD⟩ := hFD
    have hlc : 23 < bs.length := by rw [hlen]; decide
    have hqn : q < 34 := by have := (List.getElem?_eq_some_iff.1 hk).1; simpa using this
    have hq : q = 0 ∨ q = 1 ∨ q = 2 ∨ q = 3 ∨ q = 4 ∨ q = 5 ∨ q = 6 ∨ q = 7 ∨ q = 8 ∨ q = 9 ∨ q = 10 ∨ q = 11 ∨ q = 12 ∨ q = 13 ∨ q = 14 ∨ q = 15 ∨ q = 16 ∨ q = 17 ∨ q = 18 ∨ q = 19 ∨ q = 20 ∨ q = 21 ∨ q = 22 ∨ q = 23 ∨ q = 24 ∨ q = 25 ∨ q = 26 ∨ q = 27 ∨ q = 28 ∨ q = 29 ∨ q = 30 ∨ q = 31 ∨ q = 32 ∨ q = 33 := by omega
    clear hqn hlen
    rcases hq with rfl | rfl | rfl | rfl | rfl | rfl | rfl | rfl | rfl | rfl | rfl | rfl | rfl | rfl | rfl | rfl | rfl | rfl | rfl | rfl | rfl | rfl | rfl | rfl | rfl | rfl | rfl | rfl | rfl | rfl | rfl | rfl | rfl | rfl
    · obtain rfl := Option.some.inj hk
      refine op_read (x := .tmp 0) _ ((eval_out (by rfl)).trans rfl) (fun E he => by simp [go_sem, execOp, he]) (next_at x rfl (by kernel_rfl) hbk rfl (fun _ _ => rfl) ⟨hF.read (by decide) (three_boxes (p := fun _ b => _ ≠ b.al ∧ _ ≠ b.st) (by simp) (by simp) (by simp)), (hD.set hlc fun hm => absurd hm (by decide))⟩)
    · obtain rfl := Option.some.inj hk
      refine op_nil rfl (eval_at (i := 0) (by kernel_rfl) rfl (hafter ⟨0, .data⟩ (by simp) rfl) (Nat.le_of_ble_eq_true rfl)) (next_at x rfl (by kernel_rfl) hbk rfl (fun _ _ => rfl) ⟨hF.read (by decide) (three_boxes (p := fun _ b => _ ≠ b.al ∧ _ ≠ b.st) (by simp) (by simp) (by simp)), (hD.set hlc fun hm => absurd hm (by decide))⟩)
    · obtain rfl := Option.some.inj hk
      refine op_read (x := .tmp 9) _ (eval_at (i := 1) (by kernel_rfl) rfl (hafter ⟨1, .data⟩ (by simp) rfl) (Nat.le_of_ble_eq_true rfl)) (fun E he => by simp [go_sem, execOp, he]) (next_at x rfl (by kernel_rfl) hbk rfl (fun _ _ => rfl) ⟨hF.read (by decide) (three_boxes (p := fun _ b => _ ≠ b.al ∧ _ ≠ b.st) (by simp) (by simp) (by simp)), (hD.set hlc fun hm => absurd hm (by decide))⟩)
    · obtain rfl := Option.some.inj hk
      refine op_load_part rfl (eval_at (i := 2) (by kernel_rfl) rfl (hafter ⟨2, .data⟩ (by simp) rfl) (Nat.le_of_ble_eq_true rfl)) (h3.ext hF.e) (axC_mem x0) rfl Tryz.underlying32 (me_info _ _ _ _) (next_at x rfl (by kernel_rfl) hbk rfl (fun _ _ => rfl) ⟨hF.read (by decide) (three_boxes (p := fun _ b => _ ≠ b.al ∧ _ ≠ b.st) (by simp) (by simp) (by simp)), (hD.set hlc fun hm => absurd hm (by decide))⟩)
    · obtain rfl := Option.some.inj hk
      refine op_read (x := .tmp 0) _ ((eval_out (by rfl)).trans rfl) (fun E he => by simp [go_sem, execOp, he]) (next_at x rfl (by kernel_rfl) hbk rfl (fun _ _ => rfl) ⟨hF.read (by decide) (three_boxes (p := fun _ b => _ ≠ b.al ∧ _ ≠ b.st) (by simp) (by simp) (by simp)), (hD.set hlc fun hm => absurd hm (by decide))⟩)
    · obtain rfl := Option.some.inj hk
      refine op_nil rfl (eval_at (i := 4) (by kernel_rfl) rfl (hafter ⟨4, .data⟩ (by simp) rfl) (Nat.le_of_ble_eq_true rfl)) (next_at x rfl (by kernel_rfl) hbk rfl (fun _ _ => rfl) ⟨hF.read (by decide) (three_boxes (p := fun _ b => _ ≠ b.al ∧ _ ≠ b.st) (by simp) (by simp) (by simp)), (hD.set hlc fun hm => absurd hm (by decide))⟩)
    · obtain rfl := Option.some.inj hk
      refine op_read (x := .tmp 13) _ (eval_at (i := 5) (by kernel_rfl) rfl (hafter ⟨5, .data⟩ (by simp) rfl) (Nat.le_of_ble_eq_true rfl)) (fun E he => by simp [go_sem, execOp, he]) (next_at x rfl (by kernel_rfl) hbk rfl (fun _ _ => rfl) ⟨hF.read (by decide) (three_boxes (p := fun _ b => _ ≠ b.al ∧ _ ≠ b.st) (by simp) (by simp) (by simp)), (hD.set hlc fun hm => absurd hm (by decide))⟩)
    · obtain rfl := Option.some.inj hk
      refine op_read (x := .tmp 14) _ (eval_at (i := 6) (by kernel_rfl) rfl (hafter ⟨6, .data⟩ (by simp) rfl) (Nat.le_of_ble_eq_true rfl)) (fun E he => by simp [go_sem, execOp, he]) (next_at x rfl (by kernel_rfl) hbk rfl (fun _ _ => rfl) ⟨hF.read (by decide) (three_boxes (p := fun _ b => _ ≠ b.al ∧ _ ≠ b.st) (by simp) (by simp) (by simp)), (hD.set hlc fun hm => absurd hm (by decide))⟩)
    · obtain rfl := Option.some.inj hk
      refine op_read (x := .tmp 15) _ (eval_at (i := 7) (by kernel_rfl) rfl (hafter ⟨7, .data⟩ (by simp) rfl) (Nat.le_of_ble_eq_true rfl)) (fun E he => by simp [go_sem, execOp, he]) (next_at x rfl (by kernel_rfl) hbk rfl (fun _ _ => rfl) ⟨hF.read (by decide) (three_boxes (p := fun _ b => _ ≠ b.al ∧ _ ≠ b.st) (by simp) (by simp) (by simp)), (hD.set hlc fun hm => absurd hm (by decide))⟩)
    · obtain rfl := Option.some.inj hk
      have hc := (h3.ext hF.e).ax.pp
      refine op_read (x := .tmp 16) _ (eval_at (i := 8) (by kernel_rfl) rfl (hafter ⟨8, .data⟩ (by simp) rfl) (Nat.le_of_ble_eq_true rfl)) (fun E he => by simp [go_sem, execOp, he, hc]) (next_at x rfl (by kernel_rfl) hbk rfl (fun _ _ => rfl) ⟨hF.read (by decide) (three_boxes (p := fun _ b => _ ≠ b.al ∧ _ ≠ b.st) (by simp) (by simp) (by simp)), (hD.set hlc fun hm => absurd hm (by decide))⟩)
    · obtain rfl := Option.some.inj hk
      refine op_read (x := .tmp 0) _ ((eval_out (by rfl)).trans rfl) (fun E he => by simp [go_sem, execOp, he]) (next_at x rfl (by kernel_rfl) hbk rfl (fun _ _ => rfl) ⟨hF.read (by decide) (three_boxes (p := fun _ b => _ ≠ b.al ∧ _ ≠ b.st) (by simp) (by simp) (by simp)), (hD.set hlc fun hm => absurd hm (by decide))⟩)
    · obtain rfl := Option.some.inj hk
      refine op_nil rfl (eval_at (i := 10) (by kernel_rfl) rfl (hafter ⟨10, .data⟩ (by simp) rfl) (Nat.le_of_ble_eq_true rfl)) (next_at x rfl (by kernel_rfl) hbk rfl (fun _ _ => rfl) ⟨hF.read (by decide) (three_boxes (p := fun _ b => _ ≠ b.al ∧ _ ≠ b.st) (by simp) (by simp) (by simp)), (hD.set hlc fun hm => absurd hm (by decide))⟩)
    · obtain rfl := Option.some.inj hk
      refine op_read (x := .tmp 19) _ (eval_at (i := 11) (by kernel_rfl) rfl (hafter ⟨11, .data⟩ (by simp) rfl) (Nat.le_of_ble_eq_true rfl)) (fun E he => by simp [go_sem, execOp, he]) (next_at x rfl (by kernel_rfl) hbk rfl (fun _ _ => rfl) ⟨hF.read (by decide) (three_boxes (p := fun _ b => _ ≠ b.al ∧ _ ≠ b.st) (by simp) (by simp) (by simp)), (hD.set hlc fun hm => absurd hm (by decide))⟩)
    · obtain rfl := Option.some.inj hk
      have hc := (h3.ext hF.e).ax.a
      refine op_read (x := .tmp 20) _ (eval_at (i := 12) (by kernel_rfl) rfl (hafter ⟨12, .data⟩ (by simp) rfl) (Nat.le_of_ble_eq_true rfl)) (fun E he => by simp [go_sem, execOp, he, hc]) (next_at x rfl (by kernel_rfl) hbk rfl (fun _ _ => rfl) ⟨hF.read (by decide) (three_boxes (p := fun _ b => _ ≠ b.al ∧ _ ≠ b.st) (by simp) (by simp) (by simp)), (hD.set hlc fun hm => absurd hm (by decide))⟩)
    · obtain rfl := Option.some.inj hk
      refine op_read (x := .tmp 0) _ ((eval_out (by rfl)).trans rfl) (fun E he => by simp [go_sem, execOp, he]) (next_at x rfl (by kernel_rfl) hbk rfl (fun _ _ => rfl) ⟨hF.read (by decide) (three_boxes (p := fun _ b => _ ≠ b.al ∧ _ ≠ b.st) (by simp) (by simp) (by simp)), (hD.set hlc fun hm => absurd hm (by decide))⟩)
    · obtain rfl := Option.some.inj hk
      refine op_nil rfl (eval_at (i := 14) (by kernel_rfl) rfl (hafter ⟨14, .data⟩ (by simp) rfl) (Nat.le_of_ble_eq_true rfl)) (next_at x rfl (by kernel_rfl) hbk rfl (fun _ _ => rfl) ⟨hF.read (by decide) (three_boxes (p := fun _ b => _ ≠ b.al ∧ _ ≠ b.st) (by simp) (by simp) (by simp)), (hD.set hlc fun hm => absurd hm (by decide))⟩)
    · obtain rfl := Option.some.inj hk
      refine op_read (x := .tmp 23) _ (eval_at (i := 15) (by kernel_rfl) rfl (hafter ⟨15, .data⟩ (by simp) rfl) (Nat.le_of_ble_eq_true rfl)) (fun E he => by simp [go_sem, execOp, he]) (next_at x rfl (by kernel_rfl) hbk rfl (fun _ _ => rfl) ⟨hF.read (by decide) (three_boxes (p := fun _ b => _ ≠ b.al ∧ _ ≠ b.st) (by simp) (by simp) (by simp)), (hD.set hlc fun hm => absurd hm (by decide))⟩)
    · obtain rfl := Option.some.inj hk
      refine op_load_part rfl (eval_at (i := 16) (by kernel_rfl) rfl (hafter ⟨16, .data⟩ (by simp) rfl) (Nat.le_of_ble_eq_true rfl)) (h3.ext hF.e) (axC_hr x0) rfl Tryz.underlying29 (hr_info _) (next_at x rfl (by kernel_rfl) hbk rfl (fun _ _ => rfl) ⟨hF.read (by decide) (three_boxes (p := fun _ b => _ ≠ b.al ∧ _ ≠ b.st) (by simp) (by simp) (by simp)), (hD.set hlc fun hm => absurd hm (by decide))⟩)
    · obtain rfl := Option.some.inj hk
      refine op_read (x := .tmp 0) _ ((eval_out (by rfl)).trans rfl) (fun E he => by simp [go_sem, execOp, he]) (next_at x rfl (by kernel_rfl) hbk rfl (fun _ _ => rfl) ⟨hF.read (by decide) (three_boxes (p := fun _ b => _ ≠ b.al ∧ _ ≠ b.st) (by simp) (by simp) (by simp)), (hD.set hlc fun hm => absurd hm (by decide))⟩)
    · obtain rfl := Option.some.inj hk
      refine op_nil rfl (eval_at (i := 18) (by kernel_rfl) rfl (hafter ⟨18, .data⟩ (by simp) rfl) (Nat.le_of_ble_eq_true rfl)) (next_at x rfl (by kernel_rfl) hbk rfl (fun _ _ => rfl) ⟨hF.read (by decide) (three_boxes (p := fun _ b => _ ≠ b.al ∧ _ ≠ b.st) (by simp) (by simp) (by simp)), (hD.set hlc fun hm => absurd hm (by decide))⟩)
    · obtain rfl := Option.some.inj hk
      refine op_read (x := .tmp 27) _ (eval_at (i := 19) (by kernel_rfl) rfl (hafter ⟨19, .data⟩ (by simp) rfl) (Nat.le_of_ble_eq_true rfl)) (fun E he => by simp [go_sem, execOp, he]) (next_at x rfl (by kernel_rfl) hbk rfl (fun _ _ => rfl) ⟨hF.read (by decide) (three_boxes (p := fun _ b => _ ≠ b.al ∧ _ ≠ b.st) (by simp) (by simp) (by simp)), (hD.set hlc fun hm => absurd hm (by decide))⟩)
    · obtain rfl := Option.some.inj hk
      have hc := (h3.ext hF.e).ax.k
      refine op_read (x := .tmp 28) _ (eval_at (i := 20) (by kernel_rfl) rfl (hafter ⟨20, .data⟩ (by simp) rfl) (Nat.le_of_ble_eq_true rfl)) (fun E he => by simp [go_sem, execOp, he, hc]) (next_at x rfl (by kernel_rfl) hbk rfl (fun _ _ => rfl) ⟨hF.read (by decide) (three_boxes (p := fun _ b => _ ≠ b.al ∧ _ ≠ b.st) (by simp) (by simp) (by simp)), (hD.set hlc fun hm => absurd hm (by decide))⟩)
    · obtain rfl := Option.some.inj hk
      refine op_call (cwy wz) rfl Tryz.func42 rfl rfl (args2 (eval_at (i := 17) (by kernel_rfl) rfl (hafter ⟨17, .data⟩ (by simp) rfl) (Nat.le_of_ble_eq_true rfl)) (eval_at (i := 21) (by kernel_rfl) rfl (hafter ⟨21, .data⟩ (by simp) rfl) (Nat.le_of_ble_eq_true rfl))) ?_
      rintro r w2 ⟨rfl, hE⟩
      exact ⟨_, rfl, (next_at x rfl (by kernel_rfl) hbk rfl (fun _ _ => rfl) ⟨(hF.read (by decide) (three_boxes (p := fun _ b => _ ≠ b.al ∧ _ ≠ b.st) (by simp) (by simp) (by simp))).ext hE (fun y hg => ⟨hg.1.ext hE, hg.2⟩), (hD.set hlc fun hm => absurd hm (by decide))⟩)⟩
    · obtain rfl := Option.some.inj hk
      refine op_call (cwk wz (hM0.ext hF.e) (hTw _ hF.e)) rfl Tryz.func129 rfl rfl (args4 (eval_at (i := 3) (by kernel_rfl) rfl (hafter ⟨3, .data⟩ (by simp) rfl) (Nat.le_of_ble_eq_true rfl)) (eval_at (i := 9) (by kernel_rfl) rfl (hafter ⟨9, .data⟩ (by simp) rfl) (Nat.le_of_ble_eq_true rfl)) (eval_at (i := 13) (by kernel_rfl) rfl (hafter ⟨13, .data⟩ (by simp) rfl) (Nat.le_of_ble_eq_true rfl)) (eval_at (i := 22) (by kernel_rfl) rfl (hafter ⟨22, .data⟩ (by simp) rfl) (Nat.le_of_ble_eq_true rfl))) ?_
      rintro r w2 ⟨A2, c2, rfl, hM2, ho2, hE⟩
      refine ⟨_, rfl, next_at (x.1, (A2, c2)) rfl (by kernel_rfl) hbk rfl (hs_sets (D := [24, 25]) (c := 23) ?_ hbk hD) ⟨hF.tell hbk hE ⟨hM2, fun lo hi hh h0 => ho2 lo hi (Nat.le_trans hh hF.e.size) h0⟩ (fun j j0 j1 => ho2 j (j + 1) (by omega) (hMo j j0)) (three_boxes (p := fun _ b => b.al ≠ _ ∧ b.st ≠ _) (by simp) (by simp) (by simp)), (hD.set hlc fun hm => absurd hm (by decide))⟩⟩
      intro j hj
      simp only [List.mem_cons, List.not_mem_nil, or_false, not_or] at hj
      have hv : ([(some 8, .pointer (some ⟨g, 0, none⟩)), (some 9, .pointer (some ⟨g, 0, none⟩)), (some 10, .pointer (some ⟨g, 8, none⟩)), (some 11, .agg #[.int .u64 (x0.S : Int), .slice x0.B x0.M.length x0.d]), (some 12, .pointer (some ⟨g, 0, none⟩)), (some 13, .pointer (some ⟨g, 0, none⟩)), (some 14, .pointer (some ⟨g, 0, none⟩)), (some 15, .pointer (some ⟨g, 1, none⟩)), (some 16, .pointer (some ⟨g, 3, none⟩)), (some 17, .int .u64 (x0.h.sp.pp : Int)), (some 18, .pointer (some ⟨g, 0, none⟩)), (some 19, .pointer (some ⟨g, 0, none⟩)), (some 20, .pointer (some ⟨g, 11, none⟩)), (some 21, .int .u64 (x0.a : Int)), (some 22, .pointer (some ⟨g, 0, none⟩)), (some 23, .pointer (some ⟨g, 0, none⟩)), (some 24, .pointer (some ⟨g, 0, none⟩)), (some 25, .agg (hrC ⟨x0.A, x0.c, x0.h⟩)), (some 26, .pointer (some ⟨g, 0, none⟩)), (some 27, .pointer (some ⟨g, 0, none⟩)), (some 28, .pointer (some ⟨g, 10, none⟩)), (some 29, .int .i64 (x0.k : Int)), (some 30, .agg (wyC y)), (some 31, .tuple #[.agg #[.int .u64 (x0.S : Int), .slice A2 K.length c2], .agg (lfC Fl), .agg (ftC Ff)]), (some 7, .tuple #[.agg #[.int .u64 (x0.S : Int), .slice A2 K.length c2], .agg (lfC Fl), .agg (ftC Ff)]), (some 32, .agg #[.int .u64 (x0.S : Int), .slice A2 K.length c2]), (some 33, .agg (lfC Fl)), (some 34, .agg (ftC Ff)), (some 4, .pointer (some ⟨x.1 0, 0, none⟩)), (some 5, .pointer (some ⟨x.1 1, 0, none⟩)), (some 6, .pointer (some ⟨x.1 2, 0, none⟩)), (none, undef), (none, undef), (none, undef)] : List (Option Nat × Value)) = ((([(some 8, .pointer (some ⟨g, 0, none⟩)), (some 9, .pointer (some ⟨g, 0, none⟩)), (some 10, .pointer (some ⟨g, 8, none⟩)), (some 11, .agg #[.int .u64 (x0.S : Int), .slice x0.B x0.M.length x0.d]), (some 12, .pointer (some ⟨g, 0, none⟩)), (some 13, .pointer (some ⟨g, 0, none⟩)), (some 14, .pointer (some ⟨g, 0, none⟩)), (some 15, .pointer (some ⟨g, 1, none⟩)), (some 16, .pointer (some ⟨g, 3, none⟩)), (some 17, .int .u64 (x0.h.sp.pp : Int)), (some 18, .pointer (some ⟨g, 0, none⟩)), (some 19, .pointer (some ⟨g, 0, none⟩)), (some 20, .pointer (some ⟨g, 11, none⟩)), (some 21, .int .u64 (x0.a : Int)), (some 22, .pointer (some ⟨g, 0, none⟩)), (some 23, .pointer (some ⟨g, 0, none⟩)), (some 24, .pointer (some ⟨g, 0, none⟩)), (some 25, .agg (hrC ⟨x0.A, x0.c, x0.h⟩)), (some 26, .pointer (some ⟨g, 0, none⟩)), (some 27, .pointer (some ⟨g, 0, none⟩)), (some 28, .pointer (some ⟨g, 10, none⟩)), (some 29, .int .i64 (x0.k : Int)), (some 30, .agg (wyC y)), (some 31, .tuple #[.agg #[.int .u64 (x0.S : Int), .slice x.2.1 K.length x.2.2], .agg (lfC Fl), .agg (ftC Ff)]), (some 7, .tuple #[.agg #[.int .u64 (x0.S : Int), .slice x.2.1 K.length x.2.2], .agg (lfC Fl), .agg (ftC Ff)]), (some 32, .agg #[.int .u64 (x0.S : Int), .slice x.2.1 K.length x.2.2]), (some 33, .agg (lfC Fl)), (some 34, .agg (ftC Ff)), (some 4, .pointer (some ⟨x.1 0, 0, none⟩)), (some 5, .pointer (some ⟨x.1 1, 0, none⟩)), (some 6, .pointer (some ⟨x.1 2, 0, none⟩)), (none, undef), (none, undef), (none, undef)]).set 23 (some 31, .tuple #[.agg #[.int .u64 (x0.S : Int), .slice A2 K.length c2], .agg (lfC Fl), .agg (ftC Ff)])).set 24 (some 7, .tuple #[.agg #[.int .u64 (x0.S : Int), .slice A2 K.length c2], .agg (lfC Fl), .agg (ftC Ff)])).set 25 (some 32, .agg #[.int .u64 (x0.S : Int), .slice A2 K.length c2]) := rfl
      show ([(some 8, .pointer (some ⟨g, 0, none⟩)), (some 9, .pointer (some ⟨g, 0, none⟩)), (some 10, .pointer (some ⟨g, 8, none⟩)), (some 11, .agg #[.int .u64 (x0.S : Int), .slice x0.B x0.M.length x0.d]), (some 12, .pointer (some ⟨g, 0, none⟩)), (some 13, .pointer (some ⟨g, 0, none⟩)), (some 14, .pointer (some ⟨g, 0, none⟩)), (some 15, .pointer (some ⟨g, 1, none⟩)), (some 16, .pointer (some ⟨g, 3, none⟩)), (some 17, .int .u64 (x0.h.sp.pp : Int)), (some 18, .pointer (some ⟨g, 0, none⟩)), (some 19, .pointer (some ⟨g, 0, none⟩)), (some 20, .pointer (some ⟨g, 11, none⟩)), (some 21, .int .u64 (x0.a : Int)), (some 22, .pointer (some ⟨g, 0, none⟩)), (some 23, .pointer (some ⟨g, 0, none⟩)), (some 24, .pointer (some ⟨g, 0, none⟩)), (some 25, .agg (hrC ⟨x0.A, x0.c, x0.h⟩)), (some 26, .pointer (some ⟨g, 0, none⟩)), (some 27, .pointer (some ⟨g, 0, none⟩)), (some 28, .pointer (some ⟨g, 10, none⟩)), (some 29, .int .i64 (x0.k : Int)), (some 30, .agg (wyC y)), (some 31, .tuple #[.agg #[.int .u64 (x0.S : Int), .slice A2 K.length c2], .agg (lfC Fl), .agg (ftC Ff)]), (some 7, .tuple #[.agg #[.int .u64 (x0.S : Int), .slice A2 K.length c2], .agg (lfC Fl), .agg (ftC Ff)]), (some 32, .agg #[.int .u64 (x0.S : Int), .slice A2 K.length c2]), (some 33, .agg (lfC Fl)), (some 34, .agg (ftC Ff)), (some 4, .pointer (some ⟨x.1 0, 0, none⟩)), (some 5, .pointer (some ⟨x.1 1, 0, none⟩)), (some 6, .pointer (some ⟨x.1 2, 0, none⟩)), (none, undef), (none, undef), (none, undef)] : List (Option Nat × Value))[j]? = ([(some 8, .pointer (some ⟨g, 0, none⟩)), (some 9, .pointer (some ⟨g, 0, none⟩)), (some 10, .pointer (some ⟨g, 8, none⟩)), (some 11, .agg #[.int .u64 (x0.S : Int), .slice x0.B x0.M.length x0.d]), (some 12, .pointer (some ⟨g, 0, none⟩)), (some 13, .pointer (some ⟨g, 0, none⟩)), (some 14, .pointer (some ⟨g, 0, none⟩)), (some 15, .pointer (some ⟨g, 1, none⟩)), (some 16, .pointer (some ⟨g, 3, none⟩)), (some 17, .int .u64 (x0.h.sp.pp : Int)), (some 18, .pointer (some ⟨g, 0, none⟩)), (some 19, .pointer (some ⟨g, 0, none⟩)), (some 20, .pointer (some ⟨g, 11, none⟩)), (some 21, .int .u64 (x0.a : Int)), (some 22, .pointer (some ⟨g, 0, none⟩)), (some 23, .pointer (some ⟨g, 0, none⟩)), (some 24, .pointer (some ⟨g, 0, none⟩)), (some 25, .agg (hrC ⟨x0.A, x0.c, x0.h⟩)), (some 26, .pointer (some ⟨g, 0, none⟩)), (some 27, .pointer (some ⟨g, 0, none⟩)), (some 28, .pointer (some ⟨g, 10, none⟩)), (some 29, .int .i64 (x0.k : Int)), (some 30, .agg (wyC y)), (some 31, .tuple #[.agg #[.int .u64 (x0.S : Int), .slice x.2.1 K.length x.2.2], .agg (lfC Fl), .agg (ftC Ff)]), (some 7, .tuple #[.agg #[.int .u64 (x0.S : Int), .slice x.2.1 K.length x.2.2], .agg (lfC Fl), .agg (ftC Ff)]), (some 32, .agg #[.int .u64 (x0.S : Int), .slice x.2.1 K.length x.2.2]), (some 33, .agg (lfC Fl)), (some 34, .agg (ftC Ff)), (some 4, .pointer (some ⟨x.1 0, 0, none⟩)), (some 5, .pointer (some ⟨x.1 1, 0, none⟩)), (some 6, .pointer (some ⟨x.1 2, 0, none⟩)), (none, undef), (none, undef), (none, undef)] : List (Option Nat × Value))[j]?
      rw [hv, List.getElem?_set_ne (by omega), List.getElem?_set_ne (by omega), List.getElem?_set_ne (by omega)]
    · obtain rfl := Option.some.inj hk
      refine op_read (x := .tmp 31) _ (eval_at (i := 23) (by kernel_rfl) rfl (hafter ⟨23, .data⟩ (by simp) rfl) (Nat.le_of_ble_eq_true rfl)) (fun E he => by simp [go_sem, execOp, he]) (next_at x rfl (by kernel_rfl) hbk rfl (fun _ _ => rfl) ⟨hF.read (by decide) (three_boxes (p := fun _ b => _ ≠ b.al ∧ _ ≠ b.st) (by simp) (by simp) (by simp)), (hD.set hlc fun _ => hafter ⟨23, .data⟩ (by simp) rfl)⟩)
    · obtain rfl := Option.some.inj hk
      refine op_read (x := .tmp 7) _ (eval_at (i := 24) (by kernel_rfl) rfl (hafter ⟨24, .data⟩ (by simp) rfl) (Nat.le_of_ble_eq_true rfl)) (fun E he => by simp [go_sem, execOp, he]) (next_at x rfl (by kernel_rfl) hbk rfl (fun _ _ => rfl) ⟨hF.read (by decide) (three_boxes (p := fun _ b => _ ≠ b.al ∧ _ ≠ b.st) (by simp) (by simp) (by simp)), (hD.set hlc fun _ => hD 24 (by decide) (hafter ⟨24, .data⟩ (by simp) rfl))⟩)
    · obtain rfl := Option.some.inj hk
      refine op_read (x := .tmp 7) _ (eval_at (i := 24) (by kernel_rfl) rfl (hafter ⟨24, .data⟩ (by simp) rfl) (Nat.le_of_ble_eq_true rfl)) (fun E he => by simp [go_sem, execOp, he]) (next_at x rfl (by kernel_rfl) hbk rfl (fun _ _ => rfl) ⟨hF.read (by decide) (three_boxes (p := fun _ b => _ ≠ b.al ∧ _ ≠ b.st) (by simp) (by simp) (by simp)), (hD.set hlc fun hm => absurd hm (by decide))⟩)
    · obtain rfl := Option.some.inj hk
      refine op_read (x := .tmp 7) _ (eval_at (i := 24) (by kernel_rfl) rfl (hafter ⟨24, .data⟩ (by simp) rfl) (Nat.le_of_ble_eq_true rfl)) (fun E he => by simp [go_sem, execOp, he]) (next_at x rfl (by kernel_rfl) hbk rfl (fun _ _ => rfl) ⟨hF.read (by decide) (three_boxes (p := fun _ b => _ ≠ b.al ∧ _ ≠ b.st) (by simp) (by simp) (by simp)), (hD.set hlc fun hm => absurd hm (by decide))⟩)
    · obtain rfl := Option.some.inj hk
      refine op_alloc #[.int .u64 0, .slice none 0 0] 32 (fun E => by simp [go_sem, execOp]) ?_
      exact next_at (fun j => if j = 0 then wz.heap.size else x.1 j, x.2) rfl (by kernel_rfl) hbk rfl (hs_set (k := 28) (v := (some 4, .pointer (some ⟨wz.heap.size, 0, none⟩))) rfl hbk) ⟨hF.make (i := 0) rfl hbk (by simp) (fun y hg => ⟨hg.1.ext ((Ext.refl _).alloc _), hg.2⟩) (fun y hg => (hg.1.out (wz.heap.size + 1)).one (Nat.le_refl _) (Nat.lt_succ_self _)) (three_boxes (p := fun j b => (b.al = _ ↔ j = _) ∧ b.st ≠ _) (by simp) (by simp) (by simp)), (hD.set hlc fun hm => absurd hm (by decide))⟩
    · obtain rfl := Option.some.inj hk
      refine op_alloc #[.int .i64 0, .int .u64 0, .bool false, .bool false, .bool false, .bool false, .bool false, .bool false, .bool false, .bool false, .int .u64 0, .int .u64 0, .int .u64 0] 75 (fun E => by simp [go_sem, execOp]) ?_
      exact next_at (fun j => if j = 1 then wz.heap.size else x.1 j, x.2) rfl (by kernel_rfl) hbk rfl (hs_set (k := 29) (v := (some 5, .pointer (some ⟨wz.heap.size, 0, none⟩))) rfl hbk) ⟨hF.make (i := 1) rfl hbk (by simp) (fun y hg => ⟨hg.1.ext ((Ext.refl _).alloc _), hg.2⟩) (fun y hg => (hg.1.out (wz.heap.size + 1)).one (Nat.le_refl _) (Nat.lt_succ_self _)) (three_boxes (p := fun j b => (b.al = _ ↔ j = _) ∧ b.st ≠ _) (by simp) (by simp) (by simp)), (hD.set hlc fun hm => absurd hm (by decide))⟩
    · obtain rfl := Option.some.inj hk
      refine op_alloc #[.bool false, .int .i64 0, .int .u64 0] 54 (fun E => by simp [go_sem, execOp]) ?_
      exact next_at (fun j => if j = 2 then wz.heap.size else x.1 j, x.2) rfl (by kernel_rfl) hbk rfl (hs_set (k := 30) (v := (some 6, .pointer (some ⟨wz.heap.size, 0, none⟩))) rfl hbk) ⟨hF.make (i := 2) rfl hbk (by simp) (fun y hg => ⟨hg.1.ext ((Ext.refl _).alloc _), hg.2⟩) (fun y hg => (hg.1.out (wz.heap.size + 1)).one (Nat.le_refl _) (Nat.lt_succ_self _)) (three_boxes (p := fun j b => (b.al = _ ↔ j = _) ∧ b.st ≠ _) (by simp) (by simp) (by simp)), (hD.set hlc fun hm => absurd hm (by decide))⟩
    · obtain rfl := Option.some.inj hk
      have h4 := hF.b 0 _ rfl (hafter ⟨28, .data⟩ (by simp) rfl)
      rw [if_neg (by show ¬ bs[31]? = some true; rw [hbk]; decide)] at h4
      refine op_store (g := x.1 0) (cs := #[.int .u64 (x0.S : Int), .slice x.2.1 K.length x.2.2]) rfl (eval_at (i := 28) (by kernel_rfl) rfl (hafter ⟨28, .data⟩ (by simp) rfl) (Nat.le_of_ble_eq_true rfl)) (eval_at (i := 25) (by kernel_rfl) rfl (hafter ⟨25, .data⟩ (by simp) rfl) (Nat.le_of_ble_eq_true rfl)) h4.2 (me_info _ _ _ _) (rfl) (me_one _ _ _ _) (next_at x rfl (by kernel_rfl) hbk rfl (fun _ _ => rfl) ⟨hF.fill (i := 0) rfl hbk (hafter ⟨28, .data⟩ (by simp) rfl) (hafter ⟨23, .phase⟩ (by simp) rfl) (by simp) (fun y g cs ha hg => ⟨hg.1.set ha cs, hg.2⟩) (three_boxes (p := fun j b => (b.st = _ ↔ j = _) ∧ b.al ≠ _) (by simp) (by simp) (by simp)), (hD.set hlc fun hm => absurd hm (by decide))⟩)
    · obtain rfl := Option.some.inj hk
      have h4 := hF.b 1 _ rfl (hafter ⟨29, .data⟩ (by simp) rfl)
      rw [if_neg (by show ¬ bs[32]? = some true; rw [hbk]; decide)] at h4
      refine op_store (g := x.1 1) (cs := lfC Fl) rfl (eval_at (i := 29) (by kernel_rfl) rfl (hafter ⟨29, .data⟩ (by simp) rfl) (Nat.le_of_ble_eq_true rfl)) (eval_at (i := 26) (by kernel_rfl) rfl (hafter ⟨26, .data⟩ (by simp) rfl) (Nat.le_of_ble_eq_true rfl)) h4.2 (lf_info _) (by simp [lfC_size]) (lfC_one _) (next_at x rfl (by kernel_rfl) hbk rfl (fun _ _ => rfl) ⟨hF.fill (i := 1) rfl hbk (hafter ⟨29, .data⟩ (by simp) rfl) (hafter ⟨23, .phase⟩ (by simp) rfl) (by simp) (fun y g cs ha hg => ⟨hg.1.set ha cs, hg.2⟩) (three_boxes (p := fun j b => (b.st = _ ↔ j = _) ∧ b.al ≠ _) (by simp) (by simp) (by simp)), (hD.set hlc fun hm => absurd hm (by decide))⟩)
    · obtain rfl := Option.some.inj hk
      have h4 := hF.b 2 _ rfl (hafter ⟨30, .data⟩ (by simp) rfl)
      rw [if_neg (by show ¬ bs[33]? = some true; rw [hbk]; decide)] at h4
      refine op_store (g := x.1 2) (cs := ftC Ff) rfl (eval_at (i := 30) (by kernel_rfl) rfl (hafter ⟨30, .data⟩ (by simp) rfl) (Nat.le_of_ble_eq_true rfl)) (eval_at (i := 27) (by kernel_rfl) rfl (hafter ⟨27, .data⟩ (by simp) rfl) (Nat.le_of_ble_eq_true rfl)) h4.2 (ft_info _) (by simp [ftC_size]) (ftC_one _) (next_at x rfl (by kernel_rfl) hbk rfl (fun _ _ => rfl) ⟨hF.fill (i := 2) rfl hbk (hafter ⟨30, .data⟩ (by simp) rfl) (hafter ⟨23, .phase⟩ (by simp) rfl) (by simp) (fun y g cs ha hg => ⟨hg.1.set ha cs, hg.2⟩) (three_boxes (p := fun j b => (b.st = _ ↔ j = _) ∧ b.al ≠ _) (by simp) (by simp) (by simp)), (hD.set hlc fun hm => absurd hm (by decide))⟩)
  -- END
  · intro x wz hFD
    obtain ⟨hF, -⟩ := hFD
    have hE := hF.e
    obtain ⟨a4, h4⟩ : W1.drew.heap.size ≤ x.1 0 ∧ Blk wz (x.1 0) 32 #[.int .u64 (x0.S : Int), .slice x.2.1 K.length x.2.2] := hF.b 0 _ rfl rfl
    obtain ⟨a5, h5⟩ : W1.drew.heap.size ≤ x.1 1 ∧ Blk wz (x.1 1) 75 (lfC Fl) := hF.b 1 _ rfl rfl
    obtain ⟨a6, h6⟩ : W1.drew.heap.size ≤ x.1 2 ∧ Blk wz (x.1 2) 54 (ftC Ff) := hF.b 2 _ rfl rfl
    obtain ⟨hM2, ho2⟩ := hF.g rfl
    clear hF
    simp only [List.length, List.replicate, putsB, if_true]
    obtain ⟨xn, A2, c2⟩ := x
    simp only at *
    generalize xn 0 = p4 at *
    generalize xn 1 = p5 at *
    generalize xn 2 = p6 at *
    clear xn
    replace h2 := h2.ext hE
    replace h3 := h3.ext hE
    replace HE := Lib.hid (HE.out.trans hE)
    have hog := ho2 g (g + 1) hgW ho
    have hos := ho2 w.heap.size (w.heap.size + 1) h2l ((hM.out (w.heap.size + 1)).one (Nat.le_refl _) (Nat.lt_succ_self _))
    have hrow : ∀ W : World, Ext w W → RowV KS W x0.A x0.h.L x0.c := fun W h => hrw.ext h
    have b4 : w.heap.size < p4 := Nat.lt_of_lt_of_le h2l a4
    have b5 : w.heap.size < p5 := Nat.lt_of_lt_of_le h2l a5
    have b6 : w.heap.size < p6 := Nat.lt_of_lt_of_le h2l a6
    have hot : ∀ lo hi, hi ≤ w.heap.size → Out lo hi x0.B x0.M.length → Out lo hi A2 K.length := fun lo hi hh h0 => ho2 lo hi (by omega) h0
    clear cwy cwk hTw hMo hM0 h2l hE ho2 a4 a5 a6 hgW
    by_cases hs : so = 0
    case neg =>
      have hb1 : (ftC Ff)[0]? = some (.bool true) := by rw [ftC_eq, hFb, decide_eq_false hs]; rfl
      have hAq' : wkA x0 = 0 := by rw [hAq, if_neg hs]
      have hHq' : wkH x0 = x0.h := by rw [hHq, if_neg hs]
      have hKM' := hKM hs
      have x6 := (h6.cell 0).trans hb1
      clear hy hAq hHq hFb hKM hs HFf
      go_wp2_with fail
      clear x6
      replace hb := Blk.drew hb; replace h2 := Blk.drew h2; replace h3 := Blk.drew h3; replace h4 := Blk.drew h4; replace h5 := Blk.drew h5; replace h6 := Blk.drew h6; replace HE := Lib.hid HE.out.drew
      refine wp_region_seq [(0, false), (1, false), (2, true)] (Gap (w.heap.size) (w.heap.size + 1)) (by kernel_rfl) (by kernel_rfl) (Gap.refl _ _) (fun _ _ _ => Gap.trans) ?_; simp only [List.map, nth_z, nth_s]
      refine seq_load rfl rfl (fun x hx => Gap.blk hx (h6) (by omega)) rfl Tryz.underlying54 (ft_info _) (by rfl) ?_; intro K hK; simp only [Act.put, List.setIfInBounds_toArray, List.set_cons_zero, List.set_cons_succ]; refine hK _ ?_; clear hK K
      (repeat ((refine seq_read (by rfl) (by rfl) ?_; intro K hK; go_big_quiet_op; (go_big_quiet_on))))
      refine seq_store_row rfl rfl rfl (h2) (ft_info _) (by simp [ftC_size]) (ftC_one _) (by rfl) (Gap.row _ (by omega) (by omega) _) ?_; intro K hK; simp only [Act.put]; refine hK _ _ ?_; clear hK K
      refine seq_done ?_
      go_wp2
      refine bodyPost_ret (results_tc rfl _ _ rfl ((h2.row _)) Tryz.underlying54 rfl (ft_info _)) rfl ?_
      rw [hHq', hKM', hAq']
      exact ⟨x0.A, x0.c, x0.B, x0.d, rfl, h3.apart (show g ≠ w.heap.size by omega) _, hrow _ (HE.out.row (Nat.le_refl _) _), hM.ext (HE.out.row (Nat.le_refl _) _), fun lo hi hh h0 => h0, Only.ext (Nat.le_of_lt hg) (HE.out.row (Nat.le_refl _) _)⟩
    case pos =>
      have hFz : zFt = Ff := by rw [← HFf.out, hs, flt_zero]
      have hb1 : (ftC Ff)[0]? = some (.bool false) := by rw [ftC_eq, hFb, decide_eq_true hs]; rfl
      have hAq' : wkA x0 = phyN Fl x0.a := by rw [hAq, if_pos hs]
      have hHq' : wkH x0 = { x0.h with L := putT (ofE Fl x0.a x0.h.sp.ai) x0.h.vi x0.h.L, vi := -1 } := by rw [hHq, if_pos hs]
      obtain ⟨y1, y2, y3, y4, y5⟩ := hy hs
      have x6 := (h6.cell 0).trans hb1
      have HFz := Lib.hid hFz
      clear hy hAq hHq hFb hKM hs HFf hFz hb1
      have h3k := h3
      have HO := Lib.hid ((Only.ext (Nat.le_of_lt hg) HE.out).trans (Only.row wz g (axC { x0 with B := A2, M := K, d := c2 })))
      have hM6 := hM2.set hog (axC { x0 with B := A2, M := K, d := c2 })
      have hr6 := (hrow _ HE.out).set h3 (by rw [axC_size]; decide) (axC { x0 with B := A2, M := K, d := c2 })
      replace h2 := h2.apart (show w.heap.size ≠ g by omega) (axC { x0 with B := A2, M := K, d := c2 })
      replace h5 := h5.apart (show p5 ≠ g by omega) (axC { x0 with B := A2, M := K, d := c2 })
      replace h3 := h3.row (axC { x0 with B := A2, M := K, d := c2 })
      go_wp2_with (first | (refine wpList_load_blk (by rfl) 32 _ rfl rfl h4 Tryz.underlying32 rfl (by kernel_rfl) ?_) | (refine wpList_store_part rfl 32 _ _ rfl rfl rfl h3k (by rw [axC_size]; show 8 + 2 ≤ 14; decide) (axC_put8 x0 (S := x0.S) (B := A2) (d := c2) (M := K) rfl) (me_info _ _ _ _) (me_one _ _ _ _) ?_))
      clear h3k HE h4 x6 hM2
      generalize wz.setRow g (axC { x0 with B := A2, M := K, d := c2 }) = X at *
      have hgX : g < X.heap.size := h3.lt
      have hrX : ∀ W : World, Ext X W → RowV KS W x0.A x0.h.L x0.c := fun W h => hr6.ext h
      have hTX : ∀ W : World, Ext X W → Layh W := fun W h => hT W (HO.out.up hg h)
      have cof := fun W h => of12_c Fl y4 y5 x0.a x0.h.sp.ai a1 W h
      have cpt := fun W h t => put14_any x0.A x0.h.L x0.c (ofE Fl x0.a x0.h.sp.ai) x0.h.vi hrt y1 y2 W h t
      unfold TlbR at cpt
      generalize ofE Fl x0.a x0.h.sp.ai = en at *
      have HE := Lib.hid (Ext.refl X)
      have h3b := h3
      go_cut [2] from 42 to 68 (fun z wx => z = .int .u64 0 ∧ ∃ A6 c6, Hid (Blk wx g 100 (axC { x0 with B := A2, M := K, d := c2, A := A6, c := c6, h := { x0.h with L := putT en x0.h.vi x0.h.L } })) ∧ Hid (RowV KS wx A6 (putT en x0.h.vi x0.h.L) c6) ∧ Only g X wx)
      case first =>
        go_wp2_with fail
        replace hb := Blk.drew hb; replace h2 := Blk.drew h2; replace h3 := Blk.drew h3; replace h5 := Blk.drew h5; replace h6 := Blk.drew h6; replace HE := Lib.hid HE.out.drew
        refine wp_region_fork [(0, false), (1, false), (2, false), (3, false), (4, false), (6, false), (7, false), (8, false), (9, false), (10, false), (11, false), (12, false), (13, false), (14, false), (15, false), (16, false), (18, false), (19, false), (20, false), (21, false), (22, false)] 5 [(17, true), (23, true), (24, false), (25, false), (26, false), (27, true)] 17 [(5, true), (23, true), (24, false), (25, false), (26, false), (27, true)] (Save g 0 1) (by kernel_rfl) (by kernel_rfl) (Save.refl _ _ _) (fun _ _ _ => Save.trans) ?_
        simp only [List.map, nth_z, nth_s]
        (repeat (first | (refine seq_read (by rfl) (by rfl) ?_; intro K hK; go_big_quiet_op; first | go_big_quiet_on | (refine ⟨_, fun _ _ => rfl, ?_⟩; go_big_quiet_on)) | (refine seq_nil rfl rfl (by rfl) ?_; intro K hK; simp only [Act.put, List.setIfInBounds_toArray, List.set_cons_zero, List.set_cons_succ]; refine hK _ ?_; clear hK K)))
        refine seq_load rfl rfl (fun y hx => Save.blk hx h5 (by omega)) rfl Tryz.underlying75 (lf_info _) (by rfl) ?_
        intro K hK; simp only [Act.put, List.setIfInBounds_toArray, List.set_cons_zero, List.set_cons_succ]; refine hK _ ?_; clear hK K
        (repeat (first | (refine seq_read (by rfl) (by rfl) ?_; intro K hK; go_big_quiet_op; first | go_big_quiet_on | (refine ⟨_, fun _ _ => rfl, ?_⟩; go_big_quiet_on)) | (refine seq_nil rfl rfl (by rfl) ?_; intro K hK; simp only [Act.put, List.setIfInBounds_toArray, List.set_cons_zero, List.set_cons_succ]; refine hK _ ?_; clear hK K)))
        refine seq_value (.int .u64 (x0.a : Int)) (by rfl) (fun x hx => by have hq := (hx.cell h3 (by omega) h3.ax.a); simp [go_sem, execOp, Act.eval, hq]) ?_; intro K hK; simp only [Act.put, List.setIfInBounds_toArray, List.set_cons_zero, List.set_cons_succ]; refine hK _ ?_; clear hK K
        (repeat (first | (refine seq_read (by rfl) (by rfl) ?_; intro K hK; go_big_quiet_op; first | go_big_quiet_on | (refine ⟨_, fun _ _ => rfl, ?_⟩; go_big_quiet_on)) | (refine seq_nil rfl rfl (by rfl) ?_; intro K hK; simp only [Act.put, List.setIfInBounds_toArray, List.set_cons_zero, List.set_cons_succ]; refine hK _ ?_; clear hK K)))
        refine seq_value (.int .u64 (x0.h.sp.ai : Int)) (by rfl) (fun x hx => by have hq := (hx.cell h3 (by omega) h3.ax.ai); simp [go_sem, execOp, Act.eval, hq]) ?_; intro K hK; simp only [Act.put, List.setIfInBounds_toArray, List.set_cons_zero, List.set_cons_succ]; refine hK _ ?_; clear hK K
        (repeat (first | (refine seq_read (by rfl) (by rfl) ?_; intro K hK; go_big_quiet_op; first | go_big_quiet_on | (refine ⟨_, fun _ _ => rfl, ?_⟩; go_big_quiet_on)) | (refine seq_nil rfl rfl (by rfl) ?_; intro K hK; simp only [Act.put, List.setIfInBounds_toArray, List.set_cons_zero, List.set_cons_succ]; refine hK _ ?_; clear hK K)))
        refine seq_value (.int .i64 x0.h.vi) (by rfl) (fun x hx => by have hq := (hx.cell h3 (by omega) h3.ax.vi); simp [go_sem, execOp, Act.eval, hq]) ?_; intro K hK; simp only [Act.put, List.setIfInBounds_toArray, List.set_cons_zero, List.set_cons_succ]; refine hK _ ?_; clear hK K
        skip
        refine seq_done ?_
        refine ⟨?_, ?_⟩
        · skip
          refine seq_part_now rfl rfl (h3) (axC_tlb { x0 with B := A2, M := K, d := c2 }) rfl Tryz.underlying24 (tb_info _) (by rfl) ((Save.refl _ _ _ _)) ?_; intro K hK; simp only [Act.put, List.setIfInBounds_toArray, List.set_cons_zero, List.set_cons_succ]; refine hK _ _ ?_; clear hK K
          refine seq_call (cof _ (hTX _ HE.out).t.1) rfl Tryz.func29 (by kernel_rfl) (by kernel_rfl) (by rfl) (by rfl) ?_; intro K hK; rintro e w' ⟨rfl, hE⟩; refine ⟨_, rfl, (Save.ext hE), ?_⟩; simp only [Act.put, List.setIfInBounds_toArray, List.set_cons_zero, List.set_cons_succ]; refine hK _ _ ?_; clear hK K
          replace h3 := h3.ext hE
          replace HE := Lib.hid (HE.out.trans hE)
          clear hE
          refine seq_call (cpt _ (hrX _ HE.out) (hTX _ HE.out).s) rfl Tryz.func28 (by kernel_rfl) (by kernel_rfl) (by rfl) (by rfl) ?_; intro K hK; rintro e w' ⟨A6, c6, rfl, hr7, hE⟩; refine ⟨_, rfl, (Save.ext hE), ?_⟩; simp only [Act.put, List.setIfInBounds_toArray, List.set_cons_zero, List.set_cons_succ]; refine hK _ _ ?_; clear hK K
          replace h3 := h3.ext hE
          replace HE := Lib.hid (HE.out.trans hE)
          clear hE
          (repeat (first | (refine seq_read (by rfl) (by rfl) ?_; intro K hK; go_big_quiet_op; (refine ⟨_, fun _ _ => rfl, ?_⟩; go_big_quiet_on)) | (refine seq_nil rfl rfl (by rfl) ?_; intro K hK; simp only [Act.put, List.setIfInBounds_toArray, List.set_cons_zero, List.set_cons_succ]; refine hK _ ?_; clear hK K)))
          have h3k := h3
          refine seq_store_part rfl rfl rfl (h3k) ((by rw [axC_size]; show 0 + 1 ≤ 14; decide)) ((axC_put0 { x0 with B := A2, M := K, d := c2 } rfl)) ((tb_info _)) ((tbx_one _ _ _)) (by rfl) ((Save.row h3k (fun i hi => by rw [← axC_put0 { x0 with B := A2, M := K, d := c2 } (A := A6) (c := c6) (L := putT en x0.h.vi x0.h.L) rfl]; exact putAt_out i _ _ _ hi))) ?_; intro K hK; simp only [Act.put]; refine hK _ _ ?_; clear hK K
          refine seq_done ?_
          go_wp2_with fail
          go_meet
          case rel => exact ⟨rfl, A6, c6, Lib.hid (h3.row _), Lib.hid (hr7.set h3 (by rw [axC_size]; decide) _), (Only.ext (Nat.le_of_lt hgX) HE.out).trans (Only.row _ g _)⟩
        · skip
          refine seq_call (cof _ (hTX _ HE.out).t.1) rfl Tryz.func29 (by kernel_rfl) (by kernel_rfl) (by rfl) (by rfl) ?_; intro K hK; rintro e w' ⟨rfl, hE⟩; refine ⟨_, rfl, (Save.ext hE), ?_⟩; simp only [Act.put, List.setIfInBounds_toArray, List.set_cons_zero, List.set_cons_succ]; refine hK _ _ ?_; clear hK K
          replace h3 := h3.ext hE
          replace HE := Lib.hid (HE.out.trans hE)
          clear hE
          refine seq_part_now rfl rfl (h3) (axC_tlb { x0 with B := A2, M := K, d := c2 }) rfl Tryz.underlying24 (tb_info _) (by rfl) ((Save.refl _ _ _ _)) ?_; intro K hK; simp only [Act.put, List.setIfInBounds_toArray, List.set_cons_zero, List.set_cons_succ]; refine hK _ _ ?_; clear hK K
          refine seq_call (cpt _ (hrX _ HE.out) (hTX _ HE.out).s) rfl Tryz.func28 (by kernel_rfl) (by kernel_rfl) (by rfl) (by rfl) ?_; intro K hK; rintro e w' ⟨A6, c6, rfl, hr7, hE⟩; refine ⟨_, rfl, (Save.ext hE), ?_⟩; simp only [Act.put, List.setIfInBounds_toArray, List.set_cons_zero, List.set_cons_succ]; refine hK _ _ ?_; clear hK K
          replace h3 := h3.ext hE
          replace HE := Lib.hid (HE.out.trans hE)
          clear hE
          (repeat (first | (refine seq_read (by rfl) (by rfl) ?_; intro K hK; go_big_quiet_op; (refine ⟨_, fun _ _ => rfl, ?_⟩; go_big_quiet_on)) | (refine seq_nil rfl rfl (by rfl) ?_; intro K hK; simp only [Act.put, List.setIfInBounds_toArray, List.set_cons_zero, List.set_cons_succ]; refine hK _ ?_; clear hK K)))
          have h3k := h3
          refine seq_store_part rfl rfl rfl (h3k) ((by rw [axC_size]; show 0 + 1 ≤ 14; decide)) ((axC_put0 { x0 with B := A2, M := K, d := c2 } rfl)) ((tb_info _)) ((tbx_one _ _ _)) (by rfl) ((Save.row h3k (fun i hi => by rw [← axC_put0 { x0 with B := A2, M := K, d := c2 } (A := A6) (c := c6) (L := putT en x0.h.vi x0.h.L) rfl]; exact putAt_out i _ _ _ hi))) ?_; intro K hK; simp only [Act.put]; refine hK _ _ ?_; clear hK K
          refine seq_done ?_
          go_wp2_with fail
          go_meet
          case rel => exact ⟨rfl, A6, c6, Lib.hid (h3.row _), Lib.hid (hr7.set h3 (by rw [axC_size]; decide) _), (Only.ext (Nat.le_of_lt hgX) HE.out).trans (Only.row _ g _)⟩
      case rest =>
        obtain ⟨rfl, A6, c6, hb6, hr7, hO6⟩ := hcut
        replace h3 := hb6.out
        replace h2 := hO6.blk h2 (show w.heap.size ≠ g by omega)
        replace h5 := hO6.blk h5 (show p5 ≠ g by omega)
        replace hM6 := hM6.only hog hO6
        replace hr7 := hr7.out
        replace HO := Lib.hid (HO.out.trans hO6)
        clear hb6 hO6 HE h3b cof cpt hrX hTX hr6 hgX
        have h3k := h3
        replace HO := Lib.hid (HO.out.trans (Only.row wc g (axC { x0 with B := A2, M := K, d := c2, A := A6, c := c6, h := { x0.h with L := putT en x0.h.vi x0.h.L, vi := -1 } })))
        replace hM6 := hM6.set hog (axC { x0 with B := A2, M := K, d := c2, A := A6, c := c6, h := { x0.h with L := putT en x0.h.vi x0.h.L, vi := -1 } })
        replace hr7 := hr7.set h3 (by rw [axC_size]; decide) (axC { x0 with B := A2, M := K, d := c2, A := A6, c := c6, h := { x0.h with L := putT en x0.h.vi x0.h.L, vi := -1 } })
        replace h2 := h2.apart (show w.heap.size ≠ g by omega) (axC { x0 with B := A2, M := K, d := c2, A := A6, c := c6, h := { x0.h with L := putT en x0.h.vi x0.h.L, vi := -1 } })
        replace h5 := h5.apart (show p5 ≠ g by omega) (axC { x0 with B := A2, M := K, d := c2, A := A6, c := c6, h := { x0.h with L := putT en x0.h.vi x0.h.L, vi := -1 } })
        replace h3 := h3.row (axC { x0 with B := A2, M := K, d := c2, A := A6, c := c6, h := { x0.h with L := putT en x0.h.vi x0.h.L, vi := -1 } })
        go_wp2_with (refine wpList_store_cell rfl 3 _ _ rfl rfl rfl h3k (by simp [axC_size]) (axC_set7 { x0 with B := A2, M := K, d := c2, A := A6, c := c6, h := { x0.h with L := putT en x0.h.vi x0.h.L } } (-1)) (by kernel_rfl) rfl rfl ?_)
        clear h3k
        generalize wc.setRow g (axC { x0 with B := A2, M := K, d := c2, A := A6, c := c6, h := { x0.h with L := putT en x0.h.vi x0.h.L, vi := -1 } }) = Y at *
        have hTY : ∀ W : World, Ext Y W → Layh W := fun W h => hT W (HO.out.up hg h)
        have cph := fun W h => physical_c Fl y3 y4 y5 (a := x0.a) a1 W h
        have HE := Lib.hid (Ext.refl Y)
        have hYs : w.heap.size ≤ Y.heap.size := HO.out.b.size
        replace hb := Blk.drew hb; replace h2 := Blk.drew h2; replace h3 := Blk.drew h3; replace h5 := Blk.drew h5; replace h6 := Blk.drew h6; replace HE := Lib.hid HE.out.drew
        refine wp_region_seq [(0, false), (1, false), (2, false), (3, false), (4, false), (6, false), (5, true), (7, false), (8, true)] (Gap (w.heap.size) (w.heap.size + 1)) (by kernel_rfl) (by kernel_rfl) (Gap.refl _ _) (fun _ _ _ => Gap.trans) ?_; simp only [List.map, nth_z, nth_s]
        refine seq_load rfl rfl (fun x hx => Gap.blk hx (h5) (by omega)) rfl Tryz.underlying75 (lf_info _) (by rfl) ?_; intro K hK; simp only [Act.put, List.setIfInBounds_toArray, List.set_cons_zero, List.set_cons_succ]; refine hK _ ?_; clear hK K
        (repeat (first | (refine seq_read (by rfl) (by rfl) ?_; intro K hK; go_big_quiet_op; first | go_big_quiet_on | (refine ⟨_, fun _ _ => rfl, ?_⟩; go_big_quiet_on)) | (refine seq_nil rfl rfl (by rfl) ?_; intro K hK; simp only [Act.put, List.setIfInBounds_toArray, List.set_cons_zero, List.set_cons_succ]; refine hK _ ?_; clear hK K)))
        refine seq_value (.int .u64 (x0.a : Int)) (by rfl) (fun x hx => by have hq := ((Gap.blk hx h3 (by omega)).ax.a); simp [go_sem, execOp, Act.eval, hq]) ?_; intro K hK; simp only [Act.put, List.setIfInBounds_toArray, List.set_cons_zero, List.set_cons_succ]; refine hK _ ?_; clear hK K
        refine seq_build_as rfl (ft_build0) (by rfl) ?_; intro K hK; simp only [Act.put, List.setIfInBounds_toArray, List.set_cons_zero, List.set_cons_succ]; refine hK _ ?_; clear hK K
        refine seq_call (cph _ (hTY _ HE.out).t) rfl Tryz.func130 (by kernel_rfl) (by kernel_rfl) (by rfl) (by rfl) ?_; intro K hK; rintro e w' ⟨rfl, hE⟩; refine ⟨_, rfl, (Gap.ext hE), ?_⟩; simp only [Act.put, List.setIfInBounds_toArray, List.set_cons_zero, List.set_cons_succ]; refine hK _ _ ?_; clear hK K; replace h2 := h2.ext hE; replace h3 := h3.ext hE; replace h5 := h5.ext hE; (replace HE := Lib.hid (HE.out.trans hE))
        clear hE cph
        (repeat ((refine seq_read (by rfl) (by rfl) ?_; intro K hK; go_big_quiet_op; (go_big_quiet_on))))
        refine seq_store_row rfl rfl rfl (h2) (ft_info _) (by simp [ftC_size]) (ftC_one _) (by rfl) (Gap.row _ (by omega) (by omega) _) ?_; intro K hK; simp only [Act.put]; refine hK _ _ ?_; clear hK K
        refine seq_done ?_
        go_wp2
        refine bodyPost_ret (results_tc rfl _ _ rfl ((h2.row _)) Tryz.underlying54 rfl (ft_info _)) rfl ?_
        have hAz : ((wkA x0 : Nat) : Int) = physI Fl x0.a := by rw [hAq']; unfold phyN physI; exact Int.toNat_of_nonneg (by have := off_lt (x0.a : Int) Fl.lv; omega)
        rw [hHq', hAz, ← HFz.out]
        exact ⟨A6, c6, A2, c2, rfl, h3.apart (show g ≠ w.heap.size by omega) _, (hr7.ext HE.out).set h2 (by decide) _, (hM6.ext HE.out).set hos _, hot, (HO.out.up hg HE.out).own hg (Nat.le_refl _) _⟩
end Go.Proofs.YtlhoedpencmikaaGreatDoor
/- Package hart: lead (an access on its way to a place in memory). -/
namespace Go.Proofs.YtlhoedpencmikaaGreatDoor
open Go.ChangeShapes Go.WideShapes Go.ChangeAt Go.RowKit
set_option linter.unusedVariables false
set_option linter.unusedSimpArgs false
set_option maxRecDepth 10000

def leadF (x : Ax) : Ft := if x.a % x.s = 0 then fltF (soH x.S x.M x.h x.k x.a) x.k x.a else ⟨true, cauI x.k, x.a⟩
def leadH (x : Ax) : Hr := if stopH x.S x.M x.h x.k x.a x.s then x.h else hH x.S x.M x.h x.k x.a
def leadM (x : Ax) : List (Nat × Nat) := if stopH x.S x.M x.h x.k x.a x.s then x.M else mH x.S x.M x.h x.k x.a
def leadA (x : Ax) : Nat := if stopH x.S x.M x.h x.k x.a x.s then 0 else atH x.S x.M x.h x.k x.a
/-- what the way to a place in memory leaves -/
def Leads (g : Nat) (x : Ax) (w : World) (r : Ending) (w' : World) : Prop :=
  ∃ A c B d, r = .returned (.tuple #[.int .u64 ((leadA x : Nat) : Int), .agg (ftC (leadF x))]) ∧ Blk w' g 100 (axC { x with A := A, c := c, h := leadH x, B := B, M := leadM x, d := d }) ∧ RowV KS w' A (leadH x).L c ∧ Mem w' x.S B (leadM x) d ∧ (∀ lo hi, hi ≤ w.heap.size → Out lo hi x.B x.M.length → Out lo hi B (leadM x).length) ∧ Only g w w'
theorem lead_odd {x : Ax} (h : ¬ x.a % x.s = 0) : leadF x = ⟨true, cauI x.k, x.a⟩ ∧ leadH x = x.h ∧ leadM x = x.M ∧ leadA x = 0 := by
  have hst : stopH x.S x.M x.h x.k x.a x.s = true := by unfold stopH; rw [decide_eq_false h]; rfl
  refine ⟨?_, ?_, ?_, ?_⟩
  · unfold leadF; rw [if_neg h]
  · unfold leadH; rw [hst, if_pos rfl]
  · unfold leadM; rw [hst, if_pos rfl]
  · unfold leadA; rw [hst, if_pos rfl]
theorem lead_off {x : Ax} (h : x.a % x.s = 0) (hm : x.h.sp.md ≠ 8) : leadF x = ⟨false, 0, 0⟩ ∧ leadH x = x.h ∧ leadM x = x.M ∧ leadA x = x.a := by
  have hs : soH x.S x.M x.h x.k x.a = 0 := by unfold soH; rw [if_neg hm]
  have hst : stopH x.S x.M x.h x.k x.a x.s = false := stop_of h hs
  refine ⟨?_, ?_, ?_, ?_⟩
  · unfold leadF; rw [if_pos h, hs]; unfold fltF; rw [if_pos rfl]
  · unfold leadH; rw [hst]; unfold hH; rw [if_neg hm]; rfl
  · unfold leadM; rw [hst]; unfold mH; rw [if_neg hm]; rfl
  · unfold leadA; rw [hst]; unfold atH; rw [if_neg hm]; rfl
theorem lead_page {x : Ax} (h : x.a % x.s = 0) (hm : x.h.sp.md = 8) (hv : vaB (x.a : Int) = false) : leadF x = ⟨true, cauI (6 + x.k), x.a⟩ ∧ leadH x = x.h ∧ leadM x = x.M ∧ leadA x = 0 := by
  have hs : soH x.S x.M x.h x.k x.a = 2 := by unfold soH; rw [if_pos hm, hv]; rfl
  have hst : stopH x.S x.M x.h x.k x.a x.s = true := by unfold stopH; rw [hs]; simp
  refine ⟨?_, ?_, ?_, ?_⟩
  · unfold leadF; rw [if_pos h, hs, flt_page]
  · unfold leadH; rw [hst, if_pos rfl]
  · unfold leadM; rw [hst, if_pos rfl]
  · unfold leadA; rw [hst, if_pos rfl]
theorem lead_hit {x : Ax} (h : x.a % x.s = 0) (hm : x.h.sp.md = 8) (hv : vaB (x.a : Int) = true) (hh : hitH x.h x.k x.a = true) : leadF x = zFt ∧ leadH x = recL x.h x.k x.a ∧ leadM x = x.M ∧ leadA x = recA x.h x.k x.a := by
  have hs : soH x.S x.M x.h x.k x.a = 0 := by unfold soH; rw [if_pos hm, hv, hh]; rfl
  have hst : stopH x.S x.M x.h x.k x.a x.s = false := stop_of h hs
  refine ⟨?_, ?_, ?_, ?_⟩
  · unfold leadF; rw [if_pos h, hs, flt_zero]
  · unfold leadH recL; rw [hst]; unfold hH; rw [if_pos hm, hh, if_pos rfl, if_pos rfl]; rfl
  · unfold leadM; rw [hst]; unfold mH; rw [if_pos hm, hh, if_pos rfl]; rfl
  · unfold leadA recA; rw [hst]; unfold atH; rw [if_pos hm, hh, if_pos rfl, if_pos rfl]; rfl
theorem lead_walk {x : Ax} (h : x.a % x.s = 0) (hm : x.h.sp.md = 8) (hv : vaB (x.a : Int) = true) (hh : hitH x.h x.k x.a = false) : leadF x = fltF (wkS x) x.k x.a ∧ leadH x = wkH x ∧ leadM x = wkM x ∧ leadA x = wkA x := by
  have hs : soH x.S x.M x.h x.k x.a = wkS x := by unfold soH wkS; rw [if_pos hm, hv, hh, if_pos rfl, if_neg Bool.false_ne_true]
  have hF : leadF x = fltF (wkS x) x.k x.a := by unfold leadF; rw [if_pos h, hs]
  by_cases hw : wkS x = 0
  · have hst : stopH x.S x.M x.h x.k x.a x.s = false := stop_of h (hs.trans hw)
    refine ⟨hF, ?_, ?_, ?_⟩
    · unfold leadH wkH; rw [hst, if_pos hw, if_neg Bool.false_ne_true]; unfold hH wkF; rw [if_pos hm, hh, if_neg Bool.false_ne_true]
    · unfold leadM wkM; rw [hst, if_neg Bool.false_ne_true]; unfold mH; rw [if_pos hm, hh, if_neg Bool.false_ne_true]
    · unfold leadA wkA; rw [hst, if_pos hw, if_neg Bool.false_ne_true]; unfold atH wkF; rw [if_pos hm, hh, if_neg Bool.false_ne_true]
  · have hst : stopH x.S x.M x.h x.k x.a x.s = true := by unfold stopH; rw [hs, decide_eq_false hw]; simp
    refine ⟨hF, ?_, ?_, ?_⟩
    · unfold leadH wkH; rw [hst, if_neg hw, if_pos rfl]
    · unfold leadM wkM walkL; rw [hst, if_pos rfl]; unfold wkS at hw; rw [if_neg hw]
    · unfold leadA wkA; rw [hst, if_neg hw, if_pos rfl]
attribute [irreducible] leadF leadH leadM leadA
set_option maxHeartbeats 4000000 in
theorem lead16_c (x : Ax) (hr : rightH x.h = true) (hk : x.k < 3) (a1 : x.a < 18446744073709551616) (hs : IsSize x.s) (hok : x.h.ok) (g : Nat) (w : World) (hb : Blk w g 100 (axC x)) (hrw : RowV KS w x.A x.h.L x.c) (hM : Mem w x.S x.B x.M x.d) (hf : x.M.length ≤ 999) (ho : Out g (g + 1) x.B x.M.length) (hT : ∀ w', Only g w w' → Layh w') :
    Calls Tryz.prog 44 #[.pointer (some ⟨g, 0, none⟩)] w (Leads g x w) := by
  have hg := hb.lt
  have h2 : Blk (w.alloc (.cells #[.bool false, .int .i64 0, .int .u64 0] 54)) w.heap.size 54 #[.bool false, .int .i64 0, .int .u64 0] := Blk.new w _ _
  have HE := Lib.hid ((Ext.refl w).alloc (.cells #[.bool false, .int .i64 0, .int .u64 0] 54))
  have h3 := hb.ext HE.out
  have hTE : ∀ W : World, Ext w W → Layh W := fun W h => hT W (Only.ext (Nat.le_of_lt hg) h)
  have hs8 : 1 ≤ x.s ∧ x.s ≤ 8 := by unfold IsSize at hs; omega
  have cev := fun W => even_c (x.a : Int) (x.s : Int) (by omega) (by omega) (by omega) (by omega) W
  have hev : evenB (x.a : Int) (x.s : Int) = decide (x.a % x.s = 0) := by
    unfold evenB
    rw [if_neg (by omega), Bool.eq_iff_iff, beq_iff_eq, decide_eq_true_iff]
    omega
  have hrow : ∀ W : World, Ext w W → RowV KS W x.A x.h.L x.c := fun W h => hrw.ext h
  have codd := fun W t => odd9_c x.k hk x.a W t
  have cpag := fun W t => page9_c x.k hk x.a W t
  have con := fun W => on7_c x.h.sp W
  have cis := fun W => is5_c (x.a : Int) (by omega) (by omega) W
  unfold Leads
  by_cases h1 : x.a % x.s = 0
  case neg =>
    obtain ⟨e1, e2, e3, e4⟩ := lead_odd h1
    rw [e1, e2, e3, e4]
    rw [decide_eq_false h1] at hev
    go_enter Tryz.func44, Tryz.ntmps44
    go_wp2_with fail
    generalize w.alloc (.cells #[.bool false, .int .i64 0, .int .u64 0] 54) = W1 at *
    replace hb := Blk.drew hb; replace h2 := Blk.drew h2; replace h3 := Blk.drew h3; replace HE := Lib.hid HE.out.drew
    refine wp_region_seq [(0, false), (1, false), (2, false), (3, false), (4, false), (5, false), (6, false), (7, false), (8, false), (9, true), (10, false), (11, false)] Ext (by kernel_rfl) (by kernel_rfl) Ext.refl (fun _ _ _ => Ext.trans) ?_; simp only [List.map, nth_z, nth_s]
    (repeat (first | (refine seq_read (by rfl) (by rfl) ?_; intro K hK; go_big_quiet_op; first | go_big_quiet_on | (refine ⟨_, fun _ _ => rfl, ?_⟩; go_big_quiet_on)) | (refine seq_nil rfl rfl (by rfl) ?_; intro K hK; simp only [Act.put, List.setIfInBounds_toArray, List.set_cons_zero, List.set_cons_succ]; refine hK _ ?_; clear hK K)))
    refine seq_value (.int .u64 (x.a : Int)) (by rfl) (fun x hx => by have hq := ext_cell hx (h3.ax.a); simp [go_sem, execOp, Act.eval, hq]) ?_; intro K hK; simp only [Act.put, List.setIfInBounds_toArray, List.set_cons_zero, List.set_cons_succ]; refine hK _ ?_; clear hK K
    (repeat (first | (refine seq_read (by rfl) (by rfl) ?_; intro K hK; go_big_quiet_op; first | go_big_quiet_on | (refine ⟨_, fun _ _ => rfl, ?_⟩; go_big_quiet_on)) | (refine seq_nil rfl rfl (by rfl) ?_; intro K hK; simp only [Act.put, List.setIfInBounds_toArray, List.set_cons_zero, List.set_cons_succ]; refine hK _ ?_; clear hK K)))
    refine seq_value (.int .i64 (x.s : Int)) (by rfl) (fun x hx => by have hq := ext_cell hx (h3.ax.z); simp [go_sem, execOp, Act.eval, hq]) ?_; intro K hK; simp only [Act.put, List.setIfInBounds_toArray, List.set_cons_zero, List.set_cons_succ]; refine hK _ ?_; clear hK K
    (repeat ((refine seq_read (by rfl) (by rfl) ?_; intro K hK; go_big_quiet_op; (refine ⟨_, fun _ _ => rfl, ?_⟩; go_big_quiet_on))))
    refine seq_call (calls_ext (cev _)) rfl Tryz.func77 (by kernel_rfl) (by kernel_rfl) (by rfl) (by rfl) ?_; intro K hK; rintro e w' ⟨rfl, hE⟩; refine ⟨_, rfl, hE, ?_⟩; simp only [Act.put, List.setIfInBounds_toArray, List.set_cons_zero, List.set_cons_succ]; refine hK _ _ ?_; clear hK K; replace h2 := h2.ext hE; replace h3 := h3.ext hE; (replace HE := Lib.hid (HE.out.trans hE))
    clear hE cev
    rw [hev]
    (repeat ((refine seq_read (by rfl) (by rfl) ?_; intro K hK; go_big_quiet_op; first | go_big_quiet_on | (refine ⟨_, fun _ _ => rfl, ?_⟩; go_big_quiet_on))))
    refine seq_done ?_
    go_wp2_with fail
    replace hb := Blk.drew hb; replace h2 := Blk.drew h2; replace h3 := Blk.drew h3; replace HE := Lib.hid HE.out.drew
    refine wp_region_seq [(0, false), (1, false), (2, false), (3, false), (4, false), (5, false), (6, false), (7, false), (8, true), (9, false), (10, true)] (Gap (w.heap.size) (w.heap.size + 1)) (by kernel_rfl) (by kernel_rfl) (Gap.refl _ _) (fun _ _ _ => Gap.trans) ?_; simp only [List.map, nth_z, nth_s]
    (repeat (first | (refine seq_read (by rfl) (by rfl) ?_; intro K hK; go_big_quiet_op; first | go_big_quiet_on | (refine ⟨_, fun _ _ => rfl, ?_⟩; go_big_quiet_on)) | (refine seq_nil rfl rfl (by rfl) ?_; intro K hK; simp only [Act.put, List.setIfInBounds_toArray, List.set_cons_zero, List.set_cons_succ]; refine hK _ ?_; clear hK K)))
    refine seq_value (.int .i64 (x.k : Int)) (by rfl) (fun x hx => by have hq := ((Gap.blk hx h3 (by omega)).ax.k); simp [go_sem, execOp, Act.eval, hq]) ?_; intro K hK; simp only [Act.put, List.setIfInBounds_toArray, List.set_cons_zero, List.set_cons_succ]; refine hK _ ?_; clear hK K
    (repeat (first | (refine seq_read (by rfl) (by rfl) ?_; intro K hK; go_big_quiet_op; first | go_big_quiet_on | (refine ⟨_, fun _ _ => rfl, ?_⟩; go_big_quiet_on)) | (refine seq_nil rfl rfl (by rfl) ?_; intro K hK; simp only [Act.put, List.setIfInBounds_toArray, List.set_cons_zero, List.set_cons_succ]; refine hK _ ?_; clear hK K)))
    refine seq_value (.int .u64 (x.a : Int)) (by rfl) (fun x hx => by have hq := ((Gap.blk hx h3 (by omega)).ax.a); simp [go_sem, execOp, Act.eval, hq]) ?_; intro K hK; simp only [Act.put, List.setIfInBounds_toArray, List.set_cons_zero, List.set_cons_succ]; refine hK _ ?_; clear hK K
    skip
    refine seq_call (codd _ (hTE _ HE.out).t.2) rfl Tryz.func78 (by kernel_rfl) (by kernel_rfl) (by rfl) (by rfl) ?_; intro K hK; rintro e w' ⟨rfl, hE⟩; refine ⟨_, rfl, (Gap.ext hE), ?_⟩; simp only [Act.put, List.setIfInBounds_toArray, List.set_cons_zero, List.set_cons_succ]; refine hK _ _ ?_; clear hK K; replace h2 := h2.ext hE; replace h3 := h3.ext hE; (replace HE := Lib.hid (HE.out.trans hE))
    clear hE codd
    (repeat ((refine seq_read (by rfl) (by rfl) ?_; intro K hK; go_big_quiet_op; (go_big_quiet_on))))
    refine seq_store_row rfl rfl rfl (h2) (ft_info _) (by simp [ftC_size]) (ftC_one _) (by rfl) (Gap.row _ (by omega) (by omega) _) ?_; intro K hK; simp only [Act.put]; refine hK _ _ ?_; clear hK K
    refine seq_done ?_
    go_wp2
    refine bodyPost_ret (results_tc rfl _ _ rfl ((h2.row _)) Tryz.underlying54 rfl (ft_info _)) rfl ?_
    exact ⟨x.A, x.c, x.B, x.d, rfl, h3.apart (show g ≠ w.heap.size by omega) _, hrow _ (HE.out.row (Nat.le_refl _) _), hM.ext (HE.out.row (Nat.le_refl _) _), fun lo hi hh h0 => h0, Only.ext (Nat.le_of_lt hg) (HE.out.row (Nat.le_refl _) _)⟩
  case pos =>
    rw [decide_eq_true h1] at hev
    clear codd
    by_cases hmd : x.h.sp.md = 8
    case neg =>
      obtain ⟨e1, e2, e3, e4⟩ := lead_off h1 hmd
      rw [e1, e2, e3, e4]
      rw [decide_eq_false hmd] at con
      go_enter Tryz.func44, Tryz.ntmps44
      go_wp2_with fail
      generalize w.alloc (.cells #[.bool false, .int .i64 0, .int .u64 0] 54) = W1 at *
      replace hb := Blk.drew hb; replace h2 := Blk.drew h2; replace h3 := Blk.drew h3; replace HE := Lib.hid HE.out.drew
      refine wp_region_seq [(0, false), (1, false), (2, false), (3, false), (4, false), (5, false), (6, false), (7, false), (8, false), (9, true), (10, false), (11, false)] Ext (by kernel_rfl) (by kernel_rfl) Ext.refl (fun _ _ _ => Ext.trans) ?_; simp only [List.map, nth_z, nth_s]
      (repeat (first | (refine seq_read (by rfl) (by rfl) ?_; intro K hK; go_big_quiet_op; first | go_big_quiet_on | (refine ⟨_, fun _ _ => rfl, ?_⟩; go_big_quiet_on)) | (refine seq_nil rfl rfl (by rfl) ?_; intro K hK; simp only [Act.put, List.setIfInBounds_toArray, List.set_cons_zero, List.set_cons_succ]; refine hK _ ?_; clear hK K)))
      refine seq_value (.int .u64 (x.a : Int)) (by rfl) (fun x hx => by have hq := ext_cell hx (h3.ax.a); simp [go_sem, execOp, Act.eval, hq]) ?_; intro K hK; simp only [Act.put, List.setIfInBounds_toArray, List.set_cons_zero, List.set_cons_succ]; refine hK _ ?_; clear hK K
      (repeat (first | (refine seq_read (by rfl) (by rfl) ?_; intro K hK; go_big_quiet_op; first | go_big_quiet_on | (refine ⟨_, fun _ _ => rfl, ?_⟩; go_big_quiet_on)) | (refine seq_nil rfl rfl (by rfl) ?_; intro K hK; simp only [Act.put, List.setIfInBounds_toArray, List.set_cons_zero, List.set_cons_succ]; refine hK _ ?_; clear hK K)))
      refine seq_value (.int .i64 (x.s : Int)) (by rfl) (fun x hx => by have hq := ext_cell hx (h3.ax.z); simp [go_sem, execOp, Act.eval, hq]) ?_; intro K hK; simp only [Act.put, List.setIfInBounds_toArray, List.set_cons_zero, List.set_cons_succ]; refine hK _ ?_; clear hK K
      (repeat ((refine seq_read (by rfl) (by rfl) ?_; intro K hK; go_big_quiet_op; (refine ⟨_, fun _ _ => rfl, ?_⟩; go_big_quiet_on))))
      refine seq_call (calls_ext (cev _)) rfl Tryz.func77 (by kernel_rfl) (by kernel_rfl) (by rfl) (by rfl) ?_; intro K hK; rintro e w' ⟨rfl, hE⟩; refine ⟨_, rfl, hE, ?_⟩; simp only [Act.put, List.setIfInBounds_toArray, List.set_cons_zero, List.set_cons_succ]; refine hK _ _ ?_; clear hK K; replace h2 := h2.ext hE; replace h3 := h3.ext hE; (replace HE := Lib.hid (HE.out.trans hE))
      clear hE cev
      rw [hev]
      (repeat ((refine seq_read (by rfl) (by rfl) ?_; intro K hK; go_big_quiet_op; first | go_big_quiet_on | (refine ⟨_, fun _ _ => rfl, ?_⟩; go_big_quiet_on))))
      refine seq_done ?_
      go_wp2_with (refine wpList_load_part (by rfl) 27 _ rfl rfl h3 (axC_sp x) Tryz.underlying27 rfl (sp_info _) ?_)
      refine (con _).mono ?_
      rintro r5 w5 ⟨rfl, hE⟩
      replace h2 := h2.ext hE; replace h3 := h3.ext hE; (replace HE := Lib.hid (HE.out.trans hE))
      clear hE con
      have x11 := h3.ax.a
      go_wp2_with (first | (refine wpList_build_as (by rfl) rfl (ft_build0) ?_) | (refine wpList_store_row rfl 54 _ _ rfl _ (ftC _) rfl rfl _ _ h2 (ft_info _) (by simp [ftC_size]) (ftC_one _) ?_))
      refine bodyPost_ret (results_tc rfl _ _ rfl ((h2.row _)) Tryz.underlying54 rfl (ft_info _)) rfl ?_
      exact ⟨x.A, x.c, x.B, x.d, rfl, h3.apart (show g ≠ w.heap.size by omega) _, hrow _ (HE.out.row (Nat.le_refl _) _), hM.ext (HE.out.row (Nat.le_refl _) _), fun lo hi hh h0 => h0, Only.ext (Nat.le_of_lt hg) (HE.out.row (Nat.le_refl _) _)⟩
    case pos =>
      rw [decide_eq_true hmd] at con
      cases hva : vaB (x.a : Int)
      · obtain ⟨e1, e2, e3, e4⟩ := lead_page h1 hmd hva
        rw [e1, e2, e3, e4]
        rw [hva] at cis
        go_enter Tryz.func44, Tryz.ntmps44
        go_wp2_with fail
        generalize w.alloc (.cells #[.bool false, .int .i64 0, .int .u64 0] 54) = W1 at *
        replace hb := Blk.drew hb; replace h2 := Blk.drew h2; replace h3 := Blk.drew h3; replace HE := Lib.hid HE.out.drew
        refine wp_region_seq [(0, false), (1, false), (2, false), (3, false), (4, false), (5, false), (6, false), (7, false), (8, false), (9, true), (10, false), (11, false)] Ext (by kernel_rfl) (by kernel_rfl) Ext.refl (fun _ _ _ => Ext.trans) ?_; simp only [List.map, nth_z, nth_s]
        (repeat (first | (refine seq_read (by rfl) (by rfl) ?_; intro K hK; go_big_quiet_op; first | go_big_quiet_on | (refine ⟨_, fun _ _ => rfl, ?_⟩; go_big_quiet_on)) | (refine seq_nil rfl rfl (by rfl) ?_; intro K hK; simp only [Act.put, List.setIfInBounds_toArray, List.set_cons_zero, List.set_cons_succ]; refine hK _ ?_; clear hK K)))
        refine seq_value (.int .u64 (x.a : Int)) (by rfl) (fun x hx => by have hq := ext_cell hx (h3.ax.a); simp [go_sem, execOp, Act.eval, hq]) ?_; intro K hK; simp only [Act.put, List.setIfInBounds_toArray, List.set_cons_zero, List.set_cons_succ]; refine hK _ ?_; clear hK K
        (repeat (first | (refine seq_read (by rfl) (by rfl) ?_; intro K hK; go_big_quiet_op; first | go_big_quiet_on | (refine ⟨_, fun _ _ => rfl, ?_⟩; go_big_quiet_on)) | (refine seq_nil rfl rfl (by rfl) ?_; intro K hK; simp only [Act.put, List.setIfInBounds_toArray, List.set_cons_zero, List.set_cons_succ]; refine hK _ ?_; clear hK K)))
        refine seq_value (.int .i64 (x.s : Int)) (by rfl) (fun x hx => by have hq := ext_cell hx (h3.ax.z); simp [go_sem, execOp, Act.eval, hq]) ?_; intro K hK; simp only [Act.put, List.setIfInBounds_toArray, List.set_cons_zero, List.set_cons_succ]; refine hK _ ?_; clear hK K
        (repeat ((refine seq_read (by rfl) (by rfl) ?_; intro K hK; go_big_quiet_op; (refine ⟨_, fun _ _ => rfl, ?_⟩; go_big_quiet_on))))
        refine seq_call (calls_ext (cev _)) rfl Tryz.func77 (by kernel_rfl) (by kernel_rfl) (by rfl) (by rfl) ?_; intro K hK; rintro e w' ⟨rfl, hE⟩; refine ⟨_, rfl, hE, ?_⟩; simp only [Act.put, List.setIfInBounds_toArray, List.set_cons_zero, List.set_cons_succ]; refine hK _ _ ?_; clear hK K; replace h2 := h2.ext hE; replace h3 := h3.ext hE; (replace HE := Lib.hid (HE.out.trans hE))
        clear hE cev
        rw [hev]
        (repeat ((refine seq_read (by rfl) (by rfl) ?_; intro K hK; go_big_quiet_op; first | go_big_quiet_on | (refine ⟨_, fun _ _ => rfl, ?_⟩; go_big_quiet_on))))
        refine seq_done ?_
        go_wp2_with (refine wpList_load_part (by rfl) 27 _ rfl rfl h3 (axC_sp x) Tryz.underlying27 rfl (sp_info _) ?_)
        refine (con _).mono ?_
        rintro r5 w5 ⟨rfl, hE⟩
        replace h2 := h2.ext hE; replace h3 := h3.ext hE; (replace HE := Lib.hid (HE.out.trans hE))
        clear hE con
        have x11 := h3.ax.a
        go_wp2_with fail
        refine (calls_ext (cis _)).mono ?_
        rintro r5 w5 ⟨rfl, hE⟩
        replace h2 := h2.ext hE; replace h3 := h3.ext hE; (replace HE := Lib.hid (HE.out.trans hE))
        clear hE cis x11
        go_wp2_with fail
        replace hb := Blk.drew hb; replace h2 := Blk.drew h2; replace h3 := Blk.drew h3; replace HE := Lib.hid HE.out.drew
        refine wp_region_seq [(0, false), (1, false), (2, false), (3, false), (4, false), (5, false), (6, false), (7, false), (8, true), (9, false), (10, true)] (Gap (w.heap.size) (w.heap.size + 1)) (by kernel_rfl) (by kernel_rfl) (Gap.refl _ _) (fun _ _ _ => Gap.trans) ?_; simp only [List.map, nth_z, nth_s]
        (repeat (first | (refine seq_read (by rfl) (by rfl) ?_; intro K hK; go_big_quiet_op; first | go_big_quiet_on | (refine ⟨_, fun _ _ => rfl, ?_⟩; go_big_quiet_on)) | (refine seq_nil rfl rfl (by rfl) ?_; intro K hK; simp only [Act.put, List.setIfInBounds_toArray, List.set_cons_zero, List.set_cons_succ]; refine hK _ ?_; clear hK K)))
        refine seq_value (.int .i64 (x.k : Int)) (by rfl) (fun x hx => by have hq := ((Gap.blk hx h3 (by omega)).ax.k); simp [go_sem, execOp, Act.eval, hq]) ?_; intro K hK; simp only [Act.put, List.setIfInBounds_toArray, List.set_cons_zero, List.set_cons_succ]; refine hK _ ?_; clear hK K
        (repeat (first | (refine seq_read (by rfl) (by rfl) ?_; intro K hK; go_big_quiet_op; first | go_big_quiet_on | (refine ⟨_, fun _ _ => rfl, ?_⟩; go_big_quiet_on)) | (refine seq_nil rfl rfl (by rfl) ?_; intro K hK; simp only [Act.put, List.setIfInBounds_toArray, List.set_cons_zero, List.set_cons_succ]; refine hK _ ?_; clear hK K)))
        refine seq_value (.int .u64 (x.a : Int)) (by rfl) (fun x hx => by have hq := ((Gap.blk hx h3 (by omega)).ax.a); simp [go_sem, execOp, Act.eval, hq]) ?_; intro K hK; simp only [Act.put, List.setIfInBounds_toArray, List.set_cons_zero, List.set_cons_succ]; refine hK _ ?_; clear hK K
        skip
        refine seq_call (cpag _ (hTE _ HE.out).t.2) rfl Tryz.func80 (by kernel_rfl) (by kernel_rfl) (by rfl) (by rfl) ?_; intro K hK; rintro e w' ⟨rfl, hE⟩; refine ⟨_, rfl, (Gap.ext hE), ?_⟩; simp only [Act.put, List.setIfInBounds_toArray, List.set_cons_zero, List.set_cons_succ]; refine hK _ _ ?_; clear hK K; replace h2 := h2.ext hE; replace h3 := h3.ext hE; (replace HE := Lib.hid (HE.out.trans hE))
        clear hE cpag
        (repeat ((refine seq_read (by rfl) (by rfl) ?_; intro K hK; go_big_quiet_op; (go_big_quiet_on))))
        refine seq_store_row rfl rfl rfl (h2) (ft_info _) (by simp [ftC_size]) (ftC_one _) (by rfl) (Gap.row _ (by omega) (by omega) _) ?_; intro K hK; simp only [Act.put]; refine hK _ _ ?_; clear hK K
        refine seq_done ?_
        go_wp2
        refine bodyPost_ret (results_tc rfl _ _ rfl ((h2.row _)) Tryz.underlying54 rfl (ft_info _)) rfl ?_
        exact ⟨x.A, x.c, x.B, x.d, rfl, h3.apart (show g ≠ w.heap.size by omega) _, hrow _ (HE.out.row (Nat.le_refl _) _), hM.ext (HE.out.row (Nat.le_refl _) _), fun lo hi hh h0 => h0, Only.ext (Nat.le_of_lt hg) (HE.out.row (Nat.le_refl _) _)⟩
      · rw [hva] at cis
        obtain ⟨-, hai, -⟩ := sm_fits (right_split hr).2.1
        have crc := fun W h r t => recall16_c x hr hk a1 hva (by omega) g W h r t
        unfold Recalled at crc
        clear cpag
        cases hh : hitH x.h x.k x.a
        · obtain ⟨e1, e2, e3, e4⟩ := lead_walk h1 hmd hva hh
          have e5 : recL x.h x.k x.a = x.h := by unfold recL; rw [hh]; rfl
          rw [e1, e2, e3, e4]
          rw [hh, e5] at crc
          go_enter Tryz.func44, Tryz.ntmps44
          go_wp2_with fail
          generalize w.alloc (.cells #[.bool false, .int .i64 0, .int .u64 0] 54) = W1 at *
          replace hb := Blk.drew hb; replace h2 := Blk.drew h2; replace h3 := Blk.drew h3; replace HE := Lib.hid HE.out.drew
          refine wp_region_seq [(0, false), (1, false), (2, false), (3, false), (4, false), (5, false), (6, false), (7, false), (8, false), (9, true), (10, false), (11, false)] Ext (by kernel_rfl) (by kernel_rfl) Ext.refl (fun _ _ _ => Ext.trans) ?_; simp only [List.map, nth_z, nth_s]
          (repeat (first | (refine seq_read (by rfl) (by rfl) ?_; intro K hK; go_big_quiet_op; first | go_big_quiet_on | (refine ⟨_, fun _ _ => rfl, ?_⟩; go_big_quiet_on)) | (refine seq_nil rfl rfl (by rfl) ?_; intro K hK; simp only [Act.put, List.setIfInBounds_toArray, List.set_cons_zero, List.set_cons_succ]; refine hK _ ?_; clear hK K)))
          refine seq_value (.int .u64 (x.a : Int)) (by rfl) (fun x hx => by have hq := ext_cell hx (h3.ax.a); simp [go_sem, execOp, Act.eval, hq]) ?_; intro K hK; simp only [Act.put, List.setIfInBounds_toArray, List.set_cons_zero, List.set_cons_succ]; refine hK _ ?_; clear hK K
          (repeat (first | (refine seq_read (by rfl) (by rfl) ?_; intro K hK; go_big_quiet_op; first | go_big_quiet_on | (refine ⟨_, fun _ _ => rfl, ?_⟩; go_big_quiet_on)) | (refine seq_nil rfl rfl (by rfl) ?_; intro K hK; simp only [Act.put, List.setIfInBounds_toArray, List.set_cons_zero, List.set_cons_succ]; refine hK _ ?_; clear hK K)))
          refine seq_value (.int .i64 (x.s : Int)) (by rfl) (fun x hx => by have hq := ext_cell hx (h3.ax.z); simp [go_sem, execOp, Act.eval, hq]) ?_; intro K hK; simp only [Act.put, List.setIfInBounds_toArray, List.set_cons_zero, List.set_cons_succ]; refine hK _ ?_; clear hK K
          (repeat ((refine seq_read (by rfl) (by rfl) ?_; intro K hK; go_big_quiet_op; (refine ⟨_, fun _ _ => rfl, ?_⟩; go_big_quiet_on))))
          refine seq_call (calls_ext (cev _)) rfl Tryz.func77 (by kernel_rfl) (by kernel_rfl) (by rfl) (by rfl) ?_; intro K hK; rintro e w' ⟨rfl, hE⟩; refine ⟨_, rfl, hE, ?_⟩; simp only [Act.put, List.setIfInBounds_toArray, List.set_cons_zero, List.set_cons_succ]; refine hK _ _ ?_; clear hK K; replace h2 := h2.ext hE; replace h3 := h3.ext hE; (replace HE := Lib.hid (HE.out.trans hE))
          clear hE cev
          rw [hev]
          (repeat ((refine seq_read (by rfl) (by rfl) ?_; intro K hK; go_big_quiet_op; first | go_big_quiet_on | (refine ⟨_, fun _ _ => rfl, ?_⟩; go_big_quiet_on))))
          refine seq_done ?_
          go_wp2_with (refine wpList_load_part (by rfl) 27 _ rfl rfl h3 (axC_sp x) Tryz.underlying27 rfl (sp_info _) ?_)
          refine (con _).mono ?_
          rintro r5 w5 ⟨rfl, hE⟩
          replace h2 := h2.ext hE; replace h3 := h3.ext hE; (replace HE := Lib.hid (HE.out.trans hE))
          clear hE con
          have x11 := h3.ax.a
          go_wp2_with fail
          refine (calls_ext (cis _)).mono ?_
          rintro r5 w5 ⟨rfl, hE⟩
          replace h2 := h2.ext hE; replace h3 := h3.ext hE; (replace HE := Lib.hid (HE.out.trans hE))
          clear hE cis x11
          go_wp2_with fail
          refine (crc _ h3 (hrow _ HE.out) (fun W h => hT W ((Only.ext (Nat.le_of_lt hg) HE.out).trans h))).mono ?_
          rintro r5 w5 ⟨A5, c5, rfl, h3', hr5, hO5⟩
          replace h2 := hO5.blk h2 (show w.heap.size ≠ g by omega)
          replace h3 := h3'
          have hM5 := (hM.ext HE.out).only ho hO5
          have HO := Lib.hid ((Only.ext (Nat.le_of_lt hg) HE.out).trans hO5)
          clear crc h3' hO5 HE
          have cwk := walk16_c { x with A := A5, c := c5 } hr hk a1 hok g w5 h3 hr5 hM5 hf ho (fun W h => hT W (HO.out.trans h))
          unfold Led at cwk
          go_wp2_with fail
          refine cwk.mono ?_
          rintro r6 w6 ⟨A6, c6, B6, d6, rfl, h6, hr6, hM6, ho6, hO6⟩
          have h26 := hO6.blk h2 (show w.heap.size ≠ g by omega)
          go_wp2_with (refine wpList_store_row rfl 54 _ _ rfl _ (ftC _) rfl rfl _ _ h26 (ft_info _) (by simp [ftC_size]) (ftC_one _) ?_)
          refine bodyPost_ret (results_tc rfl _ _ rfl ((h26.row _)) Tryz.underlying54 rfl (ft_info _)) rfl ?_
          exact ⟨A6, c6, B6, d6, rfl, h6.apart (show g ≠ w.heap.size by omega) _, hr6.set h26 (by decide) _, hM6.set (ho6 _ _ h2.lt ((hM.out (w.heap.size + 1)).one (Nat.le_refl _) (Nat.lt_succ_self _))) _, fun lo hi hh h0 => ho6 lo hi (Nat.le_trans hh HO.out.b.size) h0, (HO.out.trans hO6).own hg (Nat.le_refl _) _⟩
        · obtain ⟨e1, e2, e3, e4⟩ := lead_hit h1 hmd hva hh
          rw [e1, e2, e3, e4]
          rw [hh] at crc
          go_enter Tryz.func44, Tryz.ntmps44
          go_wp2_with fail
          generalize w.alloc (.cells #[.bool false, .int .i64 0, .int .u64 0] 54) = W1 at *
          replace hb := Blk.drew hb; replace h2 := Blk.drew h2; replace h3 := Blk.drew h3; replace HE := Lib.hid HE.out.drew
          refine wp_region_seq [(0, false), (1, false), (2, false), (3, false), (4, false), (5, false), (6, false), (7, false), (8, false), (9, true), (10, false), (11, false)] Ext (by kernel_rfl) (by kernel_rfl) Ext.refl (fun _ _ _ => Ext.trans) ?_; simp only [List.map, nth_z, nth_s]
          (repeat (first | (refine seq_read (by rfl) (by rfl) ?_; intro K hK; go_big_quiet_op; first | go_big_quiet_on | (refine ⟨_, fun _ _ => rfl, ?_⟩; go_big_quiet_on)) | (refine seq_nil rfl rfl (by rfl) ?_; intro K hK; simp only [Act.put, List.setIfInBounds_toArray, List.set_cons_zero, List.set_cons_succ]; refine hK _ ?_; clear hK K)))
          refine seq_value (.int .u64 (x.a : Int)) (by rfl) (fun x hx => by have hq := ext_cell hx (h3.ax.a); simp [go_sem, execOp, Act.eval, hq]) ?_; intro K hK; simp only [Act.put, List.setIfInBounds_toArray, List.set_cons_zero, List.set_cons_succ]; refine hK _ ?_; clear hK K
          (repeat (first | (refine seq_read (by rfl) (by rfl) ?_; intro K hK; go_big_quiet_op; first | go_big_quiet_on | (refine ⟨_, fun _ _ => rfl, ?_⟩; go_big_quiet_on)) | (refine seq_nil rfl rfl (by rfl) ?_; intro K hK; simp only [Act.put, List.setIfInBounds_toArray, List.set_cons_zero, List.set_cons_succ]; refine hK _ ?_; clear hK K)))
          refine seq_value (.int .i64 (x.s : Int)) (by rfl) (fun x hx => by have hq := ext_cell hx (h3.ax.z); simp [go_sem, execOp, Act.eval, hq]) ?_; intro K hK; simp only [Act.put, List.setIfInBounds_toArray, List.set_cons_zero, List.set_cons_succ]; refine hK _ ?_; clear hK K
          (repeat ((refine seq_read (by rfl) (by rfl) ?_; intro K hK; go_big_quiet_op; (refine ⟨_, fun _ _ => rfl, ?_⟩; go_big_quiet_on))))
          refine seq_call (calls_ext (cev _)) rfl Tryz.func77 (by kernel_rfl) (by kernel_rfl) (by rfl) (by rfl) ?_; intro K hK; rintro e w' ⟨rfl, hE⟩; refine ⟨_, rfl, hE, ?_⟩; simp only [Act.put, List.setIfInBounds_toArray, List.set_cons_zero, List.set_cons_succ]; refine hK _ _ ?_; clear hK K; replace h2 := h2.ext hE; replace h3 := h3.ext hE; (replace HE := Lib.hid (HE.out.trans hE))
          clear hE cev
          rw [hev]
          (repeat ((refine seq_read (by rfl) (by rfl) ?_; intro K hK; go_big_quiet_op; first | go_big_quiet_on | (refine ⟨_, fun _ _ => rfl, ?_⟩; go_big_quiet_on))))
          refine seq_done ?_
          go_wp2_with (refine wpList_load_part (by rfl) 27 _ rfl rfl h3 (axC_sp x) Tryz.underlying27 rfl (sp_info _) ?_)
          refine (con _).mono ?_
          rintro r5 w5 ⟨rfl, hE⟩
          replace h2 := h2.ext hE; replace h3 := h3.ext hE; (replace HE := Lib.hid (HE.out.trans hE))
          clear hE con
          have x11 := h3.ax.a
          go_wp2_with fail
          refine (calls_ext (cis _)).mono ?_
          rintro r5 w5 ⟨rfl, hE⟩
          replace h2 := h2.ext hE; replace h3 := h3.ext hE; (replace HE := Lib.hid (HE.out.trans hE))
          clear hE cis x11
          go_wp2_with fail
          refine (crc _ h3 (hrow _ HE.out) (fun W h => hT W ((Only.ext (Nat.le_of_lt hg) HE.out).trans h))).mono ?_
          rintro r5 w5 ⟨A5, c5, rfl, h3', hr5, hO5⟩
          replace h2 := hO5.blk h2 (show w.heap.size ≠ g by omega)
          replace h3 := h3'
          have hM5 := (hM.ext HE.out).only ho hO5
          have HO := Lib.hid ((Only.ext (Nat.le_of_lt hg) HE.out).trans hO5)
          clear crc h3' hO5 HE
          go_wp2_with (first | (refine wpList_build_as (by rfl) rfl (ft_build0) ?_) | (refine wpList_store_row rfl 54 _ _ rfl _ (ftC _) rfl rfl _ _ h2 (ft_info _) (by simp [ftC_size]) (ftC_one _) ?_))
          refine bodyPost_ret (results_tc rfl _ _ rfl ((h2.row _)) Tryz.underlying54 rfl (ft_info _)) rfl ?_
          exact ⟨A5, c5, x.B, x.d, rfl, h3.apart (show g ≠ w.heap.size by omega) _, hr5.set h2 (by decide) _, hM5.set ((hM.out (w.heap.size + 1)).one (Nat.le_refl _) (Nat.lt_succ_self _)) _, fun lo hi hh h0 => h0, HO.out.own hg (Nat.le_refl _) _⟩
end Go.Proofs.YtlhoedpencmikaaGreatDoor
/- Package hart: Access. -/
namespace Go.Proofs.YtlhoedpencmikaaGreatDoor
open Go.ChangeShapes Go.WideShapes Go.ChangeAt Go.RowKit
set_option linter.unusedVariables false
set_option linter.unusedSimpArgs false
set_option maxRecDepth 10000

theorem acc_stop {x : Ax} (hst : stopH x.S x.M x.h x.k x.a x.s = true) : accH x.S x.M x.h x.k x.a x.s = leadH x ∧ accM x.S x.M x.h x.k x.a x.s x.v = leadM x ∧ accR x.S x.M x.h x.k x.a x.s = ⟨0, leadF x⟩ ∧ (leadF x).b = true := by
  have h1 : accH x.S x.M x.h x.k x.a x.s = leadH x := by unfold accH leadH; rw [hst, if_pos rfl]
  have h2 : accM x.S x.M x.h x.k x.a x.s x.v = leadM x := by unfold accM leadM; rw [hst, if_pos rfl, if_pos rfl]
  by_cases ha : x.a % x.s = 0
  · have hs : soH x.S x.M x.h x.k x.a ≠ 0 := fun hs => by rw [stop_of ha hs] at hst; cases hst
    have h3 : leadF x = fltF (soH x.S x.M x.h x.k x.a) x.k x.a := by unfold leadF; rw [if_pos ha]
    refine ⟨h1, h2, ?_, ?_⟩
    · rw [h3]; unfold accR; rw [if_pos ha, if_neg hs]
    · rw [h3, flt_eq hs]
  · have h3 : leadF x = ⟨true, cauI x.k, x.a⟩ := (lead_odd ha).1
    refine ⟨h1, h2, ?_, ?_⟩
    · rw [h3]; unfold accR; rw [if_neg ha]
    · rw [h3]
theorem acc_go {x : Ax} (hst : stopH x.S x.M x.h x.k x.a x.s = false) (A : Option Addr) (c : Nat) (B : Option Addr) (d : Nat) :
    accH x.S x.M x.h x.k x.a x.s = leadH x ∧ accM x.S x.M x.h x.k x.a x.s x.v = doM { x with A := A, c := c, h := leadH x, B := B, M := leadM x, d := d } (leadA x) ∧ accR x.S x.M x.h x.k x.a x.s = doR { x with A := A, c := c, h := leadH x, B := B, M := leadM x, d := d } (leadA x) ∧ leadF x = zFt ∧
      leadA x = atH x.S x.M x.h x.k x.a ∧ leadM x = mH x.S x.M x.h x.k x.a := by
  obtain ⟨ha, hs⟩ := stop_no hst
  have hA : leadA x = atH x.S x.M x.h x.k x.a := by unfold leadA; rw [hst, if_neg Bool.false_ne_true]
  have hM : leadM x = mH x.S x.M x.h x.k x.a := by unfold leadM; rw [hst, if_neg Bool.false_ne_true]
  refine ⟨?_, ?_, ?_, ?_, hA, hM⟩
  · unfold accH leadH; rw [hst, if_neg Bool.false_ne_true]
  · unfold accM doM; rw [hst, if_neg Bool.false_ne_true, hA, hM]
  · unfold accR doR; rw [if_pos ha, if_pos hs, hA, hM]
  · unfold leadF; rw [if_pos ha, hs, flt_zero]
theorem rs_build1 (f : Ft) : Tryz.prog.built 56 [(1, .agg (ftC f))] = some (rsC ⟨0, f⟩) := by simp only [rsC_eq, ftC_eq]; kernel_rfl
/-- what an access answers -/
def AccT (S : Nat) (M : List (Nat × Nat)) (h : Hr) (k a s v : Nat) (w : World) (r : Ending) (w' : World) : Prop :=
  ∃ A B c d, r = .returned (.tuple #[.agg (hrC ⟨A, c, accH S M h k a s⟩), .agg #[.int .u64 (S : Int), .slice B (accM S M h k a s v).length d], .agg (rsC (accR S M h k a s))]) ∧ RowV KS w' A (accH S M h k a s).L c ∧ Mem w' S B (accM S M h k a s v) d ∧ Ext w w'
/-- the same, and where the memory that is answered lies not -/
def AccO (B0 : Option Addr) (S : Nat) (M : List (Nat × Nat)) (h : Hr) (k a s v : Nat) (w : World) (r : Ending) (w' : World) : Prop :=
  ∃ A B c d, r = .returned (.tuple #[.agg (hrC ⟨A, c, accH S M h k a s⟩), .agg #[.int .u64 (S : Int), .slice B (accM S M h k a s v).length d], .agg (rsC (accR S M h k a s))]) ∧ RowV KS w' A (accH S M h k a s).L c ∧ Mem w' S B (accM S M h k a s v) d ∧ Ext w w' ∧ ∀ lo hi, hi ≤ w.heap.size → Out lo hi B0 M.length → Out lo hi B (accM S M h k a s v).length
set_option maxHeartbeats 4000000 in
theorem acc16_o (A : Option Addr) (h : Hr) (c S : Nat) (B : Option Addr) (M : List (Nat × Nat)) (d k a s v : Nat) (hr : rightH h = true) (hok : h.ok) (hk : k < 3) (a1 : a < 18446744073709551616) (hs : IsSize s) (v1 : v < 18446744073709551616) (w : World) (hrw : RowV KS w A h.L c) (hM : Mem w S B M d) (hf : M.length ≤ 990) (hT : Layh w) :
    Calls Tryz.prog 21 #[.agg (hrC ⟨A, c, h⟩), .agg #[.int .u64 (S : Int), .slice B M.length d], .int .i64 (k : Int), .int .u64 (a : Int), .int .i64 (s : Int), .int .u64 (v : Int)] w (AccO B S M h k a s v w) := by
  obtain ⟨W0, hW⟩ : ∃ W0, W0 = ((((w.alloc (.cells (hrC ⟨A, c, h⟩) 29)).alloc (.cells #[.int .u64 (S : Int), .slice B M.length d] 32)).alloc (.cells #[.slice none 0 0, .int .u64 0, .int .u64 0, .int .u64 0, .int .i64 0, .bool false, .bool false, .int .i64 0] 29)).alloc (.cells #[.int .u64 0, .slice none 0 0] 32)).alloc (.cells #[.int .u64 0, .bool false, .int .i64 0, .int .u64 0] 56) := ⟨_, rfl⟩
  have HE : Hid (Ext w W0) := Lib.hid (by rw [hW]; exact (((((Ext.refl w).alloc _).alloc _).alloc _).alloc _).alloc _)
  have h1 : Blk W0 w.heap.size 29 (hrC ⟨A, c, h⟩) := by rw [hW]; exact ((((Blk.new w _ _).alloc _).alloc _).alloc _).alloc _
  have h2 : Blk W0 (w.heap.size + 1) 32 #[.int .u64 (S : Int), .slice B M.length d] := by rw [hW]; exact (((blk_at (by simp)).alloc _).alloc _).alloc _
  have k3 : Blk W0 (w.heap.size + 2) 29 #[.slice none 0 0, .int .u64 0, .int .u64 0, .int .u64 0, .int .i64 0, .bool false, .bool false, .int .i64 0] := by rw [hW]; exact ((blk_at (by simp)).alloc _).alloc _
  have k4 : Blk W0 (w.heap.size + 3) 32 #[.int .u64 0, .slice none 0 0] := by rw [hW]; exact (blk_at (by simp)).alloc _
  have k5 : Blk W0 (w.heap.size + 4) 56 #[.int .u64 0, .bool false, .int .i64 0, .int .u64 0] := by rw [hW]; exact blk_at (by simp)
  have cwy := fun W => way16_c A h c k W
  have cis := fun W => is8_c (wayH h k) W
  rw [way_is hr hk] at cis
  have csz := fun W => size_c (s : Int) W
  rw [hs.b] at csz
  have HW := Lib.hid hW
  rw [hW] at h1
  clear hW
  go_enter Tryz.func21, Tryz.ntmps21
  go_wp2_with (refine wpList_load_blk (by rfl) 29 _ rfl rfl h1 Tryz.underlying29 rfl (by kernel_rfl) ?_)
  rw [← HW.out] at h1 ⊢
  clear HW
  refine (cwy _).mono ?_
  rintro r5 w' ⟨rfl, hE⟩
  replace h1 := h1.ext hE; replace h2 := h2.ext hE; replace k3 := k3.ext hE; replace k4 := k4.ext hE; replace k5 := k5.ext hE; (replace HE := Lib.hid (HE.out.trans hE))
  clear hE cwy
  go_wp2_with fail; refine (cis _).mono ?_; rintro e w' ⟨rfl, hE⟩; replace h1 := h1.ext hE; replace h2 := h2.ext hE; replace k3 := k3.ext hE; replace k4 := k4.ext hE; replace k5 := k5.ext hE; (replace HE := Lib.hid (HE.out.trans hE))
  clear hE cis
  go_wp2_with fail; refine (calls_ext (csz _)).mono ?_; rintro e w' ⟨rfl, hE⟩; replace h1 := h1.ext hE; replace h2 := h2.ext hE; replace k3 := k3.ext hE; replace k4 := k4.ext hE; replace k5 := k5.ext hE; (replace HE := Lib.hid (HE.out.trans hE))
  clear hE csz
  have hE := (Ext.refl w').alloc (.cells (axC ⟨A, c, h, S, B, M, d, k, a, s, v⟩) 100)
  have h3n := Blk.new w' 100 (axC ⟨A, c, h, S, B, M, d, k, a, s, v⟩)
  have h1k := h1
  have h2k := h2
  have hgs : w.heap.size + 4 < w'.heap.size := k5.lt
  replace h1 := h1.ext hE; replace h2 := h2.ext hE; replace k3 := k3.ext hE; replace k4 := k4.ext hE; replace k5 := k5.ext hE; (replace HE := Lib.hid (HE.out.trans hE))
  have h3 := h3n
  clear hE h3n
  go_wp2_with (first | (refine wpList_load_blk (by rfl) 29 _ rfl rfl h1k Tryz.underlying29 rfl (by kernel_rfl) ?_) | (refine wpList_load_blk (by rfl) 32 _ rfl rfl h2k Tryz.underlying32 rfl (by kernel_rfl) ?_) | (refine wpList_build_as (by rfl) rfl ((ax_build _ _ _ _ _ _ _ _ _ _ _)) ?_) | (refine wpList_store_new rfl 100 _ _ rfl (axC _) _ _ rfl rfl (ax_info _) (by simp [axC_size]) (axC_one _) ?_))
  clear h1 h2 h1k h2k
  generalize w'.heap.size = g at *
  generalize w'.alloc (.cells (axC ⟨A, c, h, S, B, M, d, k, a, s, v⟩) 100) = W3 at *
  have hgW : g < W3.heap.size := h3.lt
  have hTo : ∀ W, Only g W3 W → Layh W := fun W o => hT.ext (o.outer HE.out (by omega))
  have cld := lead16_c ⟨A, c, h, S, B, M, d, k, a, s, v⟩ hr hk a1 hs hok g W3 h3 (hrw.ext HE.out) (hM.ext HE.out) (by show M.length ≤ 999; omega) ((hM.out (g + 1)).one (by omega) (by omega)) hTo
  unfold Leads at cld
  refine cld.mono ?_
  rintro r6 w6 ⟨A5, c5, B5, d5, rfl, h36, hr6, hM6, ho6, hO6⟩
  replace k3 := hO6.blk k3 (show w.heap.size + 2 ≠ g by omega)
  replace k4 := hO6.blk k4 (show w.heap.size + 3 ≠ g by omega)
  replace k5 := hO6.blk k5 (show w.heap.size + 4 ≠ g by omega)
  replace h3 := h36
  replace HE := Lib.hid (hO6.outer HE.out (by omega))
  have hout : Out w.heap.size g B5 (leadM ⟨A, c, h, S, B, M, d, k, a, s, v⟩).length := ho6 w.heap.size g (by omega) (hM.out g)
  have houg : Out g (g + 1) B5 (leadM ⟨A, c, h, S, B, M, d, k, a, s, v⟩).length := ho6 g (g + 1) (by omega) ((hM.out (g + 1)).one (by omega) (by omega))
  have hol : ∀ lo hi, hi ≤ w.heap.size → Out lo hi B M.length → Out lo hi B5 (leadM ⟨A, c, h, S, B, M, d, k, a, s, v⟩).length := fun lo hi hh h0 => ho6 lo hi (by omega) h0
  have hTp : ∀ W, Only g w6 W → Layh W := fun W o => hTo W (hO6.trans o)
  have hg6 : g < w6.heap.size := h3.lt
  clear h36 ho6 hO6 cld hTo hgW
  cases hst : stopH S M h k a s
  case true =>
    have E : accH S M h k a s = leadH ⟨A, c, h, S, B, M, d, k, a, s, v⟩ ∧ accM S M h k a s v = leadM ⟨A, c, h, S, B, M, d, k, a, s, v⟩ ∧ accR S M h k a s = ⟨0, leadF ⟨A, c, h, S, B, M, d, k, a, s, v⟩⟩ ∧ (leadF ⟨A, c, h, S, B, M, d, k, a, s, v⟩).b = true := acc_stop (x := ⟨A, c, h, S, B, M, d, k, a, s, v⟩) hst
    obtain ⟨E1, E2, E3, E4⟩ := E
    clear hst hTp
    generalize leadF ⟨A, c, h, S, B, M, d, k, a, s, v⟩ = F at *
    generalize leadH ⟨A, c, h, S, B, M, d, k, a, s, v⟩ = H at *
    generalize leadM ⟨A, c, h, S, B, M, d, k, a, s, v⟩ = K at *
    generalize leadA ⟨A, c, h, S, B, M, d, k, a, s, v⟩ = at' at *
    have EH := Lib.hid E1
    have EM := Lib.hid E2
    have ER := Lib.hid E3
    clear E1 E2 E3
    have h6 := Blk.new w6 54 (ftC F)
    have x6 : (w6.alloc (.cells (ftC F) 54)).cell? ⟨w6.heap.size, 0, none⟩ = some (.bool true) := (h6.cell 0).trans (by rw [ftC_eq, E4]; rfl)
    have hE := (Ext.refl w6).alloc (.cells (ftC F) 54)
    have hg67 : g < w6.heap.size := h3.lt
    replace hr6 := hr6.ext hE
    replace hM6 := hM6.ext hE
    replace h3 := h3.ext hE
    replace k3 := k3.ext hE
    replace k4 := k4.ext hE
    replace k5 := k5.ext hE
    replace HE := Lib.hid (HE.out.trans hE)
    clear hE
    go_wp2_with (refine wpList_store_new rfl 54 _ _ rfl (ftC _) _ _ rfl rfl (ft_info _) (by simp [ftC_size]) (ftC_one _) ?_)
    clear x6
    generalize w6.heap.size = g6 at *
    generalize w6.alloc (.cells (ftC F) 54) = W6 at *
    replace h3 := Blk.drew h3; replace h6 := Blk.drew h6; replace k3 := Blk.drew k3; replace k4 := Blk.drew k4; replace k5 := Blk.drew k5; replace HE := Lib.hid HE.out.drew
    refine wp_region_seq [(0, false), (1, false), (2, false), (3, false), (4, false), (5, false), (6, true), (7, true), (8, true)] (Gap (w.heap.size + 2) (w.heap.size + 5)) (by kernel_rfl) (by kernel_rfl) (Gap.refl _ _) (fun _ _ _ => Gap.trans) ?_; simp only [List.map, nth_z, nth_s]
    (repeat ((refine seq_read (by rfl) (by rfl) ?_; intro K hK; go_big_quiet_op; (refine ⟨_, fun _ _ => rfl, ?_⟩; go_big_quiet_on))))
    refine seq_load_part rfl rfl (fun y hx => Gap.blk hx h3 (by omega)) (axC_hr _) rfl Tryz.underlying29 (hr_info _) (by rfl) ?_
    intro K hK; simp only [Act.put, List.setIfInBounds_toArray, List.set_cons_zero, List.set_cons_succ]; refine hK _ ?_; clear hK K
    (repeat ((refine seq_read (by rfl) (by rfl) ?_; intro K hK; go_big_quiet_op; (refine ⟨_, fun _ _ => rfl, ?_⟩; go_big_quiet_on))))
    refine seq_load_part rfl rfl (fun y hx => Gap.blk hx h3 (by omega)) (axC_mem _) rfl Tryz.underlying32 (me_info _ _ _ _) (by rfl) ?_
    intro K hK; simp only [Act.put, List.setIfInBounds_toArray, List.set_cons_zero, List.set_cons_succ]; refine hK _ ?_; clear hK K
    refine seq_load rfl rfl (fun x hx => Gap.blk hx (h6) (by omega)) rfl Tryz.underlying54 (ft_info _) (by rfl) ?_; intro K hK; simp only [Act.put, List.setIfInBounds_toArray, List.set_cons_zero, List.set_cons_succ]; refine hK _ ?_; clear hK K
    refine seq_build_as rfl ((rs_build1 F)) (by rfl) ?_; intro K hK; simp only [Act.put, List.setIfInBounds_toArray, List.set_cons_zero, List.set_cons_succ]; refine hK _ ?_; clear hK K
    refine seq_store_row rfl rfl rfl (k3) (hr_info _) (by simp [hrC_size]) (hrC_one _) (by rfl) (Gap.row _ (by omega) (by omega) _) ?_; intro K hK; simp only [Act.put]; refine hK _ _ ?_; clear hK K
    refine seq_store_row rfl rfl rfl ((k4.apart (by omega) _)) (by kernel_rfl) (by rfl) (by simp [Value.oneCell']) (by rfl) (Gap.row _ (by omega) (by omega) _) ?_; intro K hK; simp only [Act.put]; refine hK _ _ ?_; clear hK K
    refine seq_store_row rfl rfl rfl (((k5.apart (by omega) _).apart (by omega) _)) (rs_info _) (by simp [rsC_size]) (rsC_one _) (by rfl) (Gap.row _ (by omega) (by omega) _) ?_; intro K hK; simp only [Act.put]; refine hK _ _ ?_; clear hK K
    refine seq_done ?_
    go_wp2
    refine bodyPost_ret (results_ccc rfl _ _ rfl rfl rfl ((((k3.row _).apart (by omega) _).apart (by omega) _)) ((((k4.apart (by omega) _).row _).apart (by omega) _)) ((((k5.apart (by omega) _).apart (by omega) _).row _)) Tryz.underlying29 rfl (by exact hr_info _) Tryz.underlying32 rfl (by exact me_info _ _ _ _) Tryz.underlying56 rfl (by exact rs_info _)) rfl ?_
    unfold AccO
    rw [EH.out, EM.out, ER.out]
    replace hr6 := hr6.ext (Ext.refl _).drew
    replace hM6 := hM6.ext (Ext.refl _).drew
    exact ⟨A5, _, c5, _, rfl, ((hr6.set k3 (by decide) _).set (k4.apart (by omega) _) (by decide) _).set ((k5.apart (by omega) _).apart (by omega) _) (by decide) _, ((hM6.set (hout.one (by omega) (by omega)) _).set (hout.one (by omega) (by omega)) _).set (hout.one (by omega) (by omega)) _, ((HE.out.row (by omega) _).row (by omega) _).row (by omega) _, hol⟩
  case false =>
    have E : accH S M h k a s = leadH ⟨A, c, h, S, B, M, d, k, a, s, v⟩ ∧ accM S M h k a s v = doM ⟨A5, c5, leadH ⟨A, c, h, S, B, M, d, k, a, s, v⟩, S, B5, leadM ⟨A, c, h, S, B, M, d, k, a, s, v⟩, d5, k, a, s, v⟩ (leadA ⟨A, c, h, S, B, M, d, k, a, s, v⟩) ∧ accR S M h k a s = doR ⟨A5, c5, leadH ⟨A, c, h, S, B, M, d, k, a, s, v⟩, S, B5, leadM ⟨A, c, h, S, B, M, d, k, a, s, v⟩, d5, k, a, s, v⟩ (leadA ⟨A, c, h, S, B, M, d, k, a, s, v⟩) ∧ leadF ⟨A, c, h, S, B, M, d, k, a, s, v⟩ = zFt ∧ leadA ⟨A, c, h, S, B, M, d, k, a, s, v⟩ = atH S M h k a ∧ leadM ⟨A, c, h, S, B, M, d, k, a, s, v⟩ = mH S M h k a := acc_go (x := ⟨A, c, h, S, B, M, d, k, a, s, v⟩) hst A5 c5 B5 d5
    obtain ⟨E1, E2, E3, E4, E5, E6⟩ := E
    obtain ⟨sa, so⟩ := stop_no hst
    have hpl : leadA ⟨A, c, h, S, B, M, d, k, a, s, v⟩ % s = 0 ∧ leadA ⟨A, c, h, S, B, M, d, k, a, s, v⟩ < 18446744073709551616 := by rw [E5]; exact atH_ok hr hM.rl a1 hs sa so
    have hln : (leadM ⟨A, c, h, S, B, M, d, k, a, s, v⟩).length ≤ 999 := by rw [E6]; have := mH_len hM.rl hM.ok.mod8 so; omega
    rw [E4]
    clear hst E4 E5 E6 sa so
    generalize leadH ⟨A, c, h, S, B, M, d, k, a, s, v⟩ = H at *
    generalize leadM ⟨A, c, h, S, B, M, d, k, a, s, v⟩ = K at *
    generalize leadA ⟨A, c, h, S, B, M, d, k, a, s, v⟩ = pl at *
    have EH := Lib.hid E1
    have EM := Lib.hid E2
    have ER := Lib.hid E3
    clear E1 E2 E3
    have h6 := Blk.new w6 54 (ftC zFt)
    have x6 : (w6.alloc (.cells (ftC zFt) 54)).cell? ⟨w6.heap.size, 0, none⟩ = some (.bool false) := (h6.cell 0).trans (by rw [ftC_z]; rfl)
    have hE := (Ext.refl w6).alloc (.cells (ftC zFt) 54)
    replace hr6 := hr6.ext hE
    replace hM6 := hM6.ext hE
    have hTq : ∀ W, Only g (w6.alloc (.cells (ftC zFt) 54)) W → Layh W := fun W o => hTp W ((Only.ext (by omega) hE).trans o)
    replace h3 := h3.ext hE
    replace k3 := k3.ext hE
    replace k4 := k4.ext hE
    replace k5 := k5.ext hE
    replace HE := Lib.hid (HE.out.trans hE)
    clear hE hTp h6 hg6
    go_wp2_with (refine wpList_store_new rfl 54 _ _ rfl (ftC _) _ _ rfl rfl (ft_info _) (by simp [ftC_size]) (ftC_one _) ?_)
    clear x6
    generalize w6.heap.size = g6 at *
    generalize w6.alloc (.cells (ftC zFt) 54) = W6 at *
    have hg6 : g < W6.heap.size := h3.lt
    have cdo := do16_c ⟨A5, c5, H, S, B5, K, d5, k, a, s, v⟩ pl hpl.2 hs hpl.1 hk v1 g W6 h3 hM6 hln houg hTq
    unfold Done at cdo
    have hr6n := hr6
    refine cdo.mono ?_
    rintro r7 w7 ⟨B7, d7, rfl, h37, hM7, ho7, hO7⟩
    replace k3 := hO7.blk k3 (show w.heap.size + 2 ≠ g by omega)
    replace k4 := hO7.blk k4 (show w.heap.size + 3 ≠ g by omega)
    replace k5 := hO7.blk k5 (show w.heap.size + 4 ≠ g by omega)
    replace hr6 := hr6.only h3 (by rw [axC_size]; decide) hO7
    replace h3 := h37
    replace HE := Lib.hid (hO7.outer HE.out (by omega))
    replace hout := ho7 w.heap.size g (by omega) hout
    replace hol : ∀ lo hi, hi ≤ w.heap.size → Out lo hi B M.length → Out lo hi B7 _ := fun lo hi hh h0 => ho7 lo hi (by omega) (hol lo hi hh h0)
    replace hM6 := hM7
    have hg7 : g < w7.heap.size := h3.lt
    clear h37 ho7 hO7 cdo hTq hr6n hM7 houg hln hg6 hpl
    generalize doM ⟨A5, c5, H, S, B5, K, d5, k, a, s, v⟩ pl = K2 at *
    generalize doR ⟨A5, c5, H, S, B5, K, d5, k, a, s, v⟩ pl = R2 at *
    have h6 := Blk.new w7 56 (rsC R2)
    have hE := (Ext.refl w7).alloc (.cells (rsC R2) 56)
    replace hr6 := hr6.ext hE
    replace hM6 := hM6.ext hE
    replace h3 := h3.ext hE
    replace k3 := k3.ext hE
    replace k4 := k4.ext hE
    replace k5 := k5.ext hE
    replace HE := Lib.hid (HE.out.trans hE)
    clear hE
    go_wp2_with (refine wpList_store_new rfl 56 _ _ rfl (rsC _) _ _ rfl rfl (rs_info _) (by simp [rsC_size]) (rsC_one _) ?_)
    generalize w7.heap.size = g7 at *
    generalize w7.alloc (.cells (rsC R2) 56) = W6 at *
    replace h3 := Blk.drew h3; replace h6 := Blk.drew h6; replace k3 := Blk.drew k3; replace k4 := Blk.drew k4; replace k5 := Blk.drew k5; replace HE := Lib.hid HE.out.drew
    refine wp_region_seq [(0, false), (1, false), (2, false), (3, false), (4, false), (5, true), (6, true), (7, true)] (Gap (w.heap.size + 2) (w.heap.size + 5)) (by kernel_rfl) (by kernel_rfl) (Gap.refl _ _) (fun _ _ _ => Gap.trans) ?_; simp only [List.map, nth_z, nth_s]
    simp only [Act.put]
    (repeat ((refine seq_read (by rfl) (by rfl) ?_; intro K hK; go_big_quiet_op; (refine ⟨_, fun _ _ => rfl, ?_⟩; go_big_quiet_on))))
    refine seq_load_part rfl rfl (fun y hx => Gap.blk hx h3 (by omega)) (axC_hr _) rfl Tryz.underlying29 (hr_info _) (by rfl) ?_
    intro K hK; simp only [Act.put, List.setIfInBounds_toArray, List.set_cons_zero, List.set_cons_succ]; refine hK _ ?_; clear hK K
    (repeat ((refine seq_read (by rfl) (by rfl) ?_; intro K hK; go_big_quiet_op; (refine ⟨_, fun _ _ => rfl, ?_⟩; go_big_quiet_on))))
    refine seq_load_part rfl rfl (fun y hx => Gap.blk hx h3 (by omega)) (axC_mem _) rfl Tryz.underlying32 (me_info _ _ _ _) (by rfl) ?_
    intro K hK; simp only [Act.put, List.setIfInBounds_toArray, List.set_cons_zero, List.set_cons_succ]; refine hK _ ?_; clear hK K
    refine seq_load rfl rfl (fun x hx => Gap.blk hx (h6) (by omega)) rfl Tryz.underlying56 (rs_info _) (by rfl) ?_; intro K hK; simp only [Act.put, List.setIfInBounds_toArray, List.set_cons_zero, List.set_cons_succ]; refine hK _ ?_; clear hK K
    refine seq_store_row rfl rfl rfl (k3) (hr_info _) (by simp [hrC_size]) (hrC_one _) (by rfl) (Gap.row _ (by omega) (by omega) _) ?_; intro K hK; simp only [Act.put]; refine hK _ _ ?_; clear hK K
    refine seq_store_row rfl rfl rfl ((k4.apart (by omega) _)) (by kernel_rfl) (by rfl) (by simp [Value.oneCell']) (by rfl) (Gap.row _ (by omega) (by omega) _) ?_; intro K hK; simp only [Act.put]; refine hK _ _ ?_; clear hK K
    refine seq_store_row rfl rfl rfl (((k5.apart (by omega) _).apart (by omega) _)) (rs_info _) (by simp [rsC_size]) (rsC_one _) (by rfl) (Gap.row _ (by omega) (by omega) _) ?_; intro K hK; simp only [Act.put]; refine hK _ _ ?_; clear hK K
    refine seq_done ?_
    go_wp2
    refine bodyPost_ret (results_ccc rfl _ _ rfl rfl rfl ((((k3.row _).apart (by omega) _).apart (by omega) _)) ((((k4.apart (by omega) _).row _).apart (by omega) _)) ((((k5.apart (by omega) _).apart (by omega) _).row _)) Tryz.underlying29 rfl (by exact hr_info _) Tryz.underlying32 rfl (by exact me_info _ _ _ _) Tryz.underlying56 rfl (by exact rs_info _)) rfl ?_
    unfold AccO
    rw [EH.out, EM.out, ER.out]
    replace hr6 := hr6.ext (Ext.refl _).drew
    replace hM6 := hM6.ext (Ext.refl _).drew
    exact ⟨A5, _, c5, _, rfl, ((hr6.set k3 (by decide) _).set (k4.apart (by omega) _) (by decide) _).set ((k5.apart (by omega) _).apart (by omega) _) (by decide) _, ((hM6.set (hout.one (by omega) (by omega)) _).set (hout.one (by omega) (by omega)) _).set (hout.one (by omega) (by omega)) _, ((HE.out.row (by omega) _).row (by omega) _).row (by omega) _, hol⟩
theorem acc16_c (A : Option Addr) (h : Hr) (c S : Nat) (B : Option Addr) (M : List (Nat × Nat)) (d k a s v : Nat) (hr : rightH h = true) (hok : h.ok) (hk : k < 3) (a1 : a < 18446744073709551616) (hs : IsSize s) (v1 : v < 18446744073709551616) (w : World) (hrw : RowV KS w A h.L c) (hM : Mem w S B M d) (hf : M.length ≤ 990) (hT : Layh w) :
    Calls Tryz.prog 21 #[.agg (hrC ⟨A, c, h⟩), .agg #[.int .u64 (S : Int), .slice B M.length d], .int .i64 (k : Int), .int .u64 (a : Int), .int .i64 (s : Int), .int .u64 (v : Int)] w (AccT S M h k a s v w) :=
  (acc16_o A h c S B M d k a s v hr hok hk a1 hs v1 w hrw hM hf hT).mono fun r w' ⟨A, B, c, d, h1, h2, h3, h4, _⟩ => ⟨A, B, c, d, h1, h2, h3, h4⟩
end Go.Proofs.YtlhoedpencmikaaGreatDoor
