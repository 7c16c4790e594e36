/- Layer 12: awake answers true. -/
import Derived.Test.YtklickoclgjnkaaDoorRtwelb
import Derived.Lib.Hide
namespace Go.Proofs.YtklickoclgjnkaaDoor
open Go.ChangeShapes Go.WideShapes Go.ChangeAt Go.RowKit
set_option linter.unusedVariables false
set_option linter.unusedSimpArgs false

def PK : Pt := ⟨true, true, false, false, false, false, false, true, 0, 1024, 0⟩
def LK : Lf := ⟨1, 0, PK⟩
def EK : En := ⟨true, 3, false, 1, 512, 1024, ⟨true, false, false, false⟩, true⟩
def FK : En := ⟨true, 3, true, 1, 512, 1024, ⟨true, false, false, false⟩, true⟩
def GK : En := ⟨true, 0, false, 0, 513, 0, ⟨false, false, false, false⟩, false⟩
def HK : En := ⟨true, 0, false, 0, 511, 0, ⟨false, false, false, false⟩, false⟩
def NK : En := ⟨false, 1, false, 0, 0, 0, ⟨false, false, false, false⟩, false⟩
theorem nb_1 (a : Int) : nbI a 1 = a / 4096 % 134217728 - a / 4096 % 134217728 % 512 := by rw [nb_eq (by decide) (by decide), pag1]; unfold numI; rfl
theorem nb_0 (a : Int) : nbI a 0 = a / 4096 % 134217728 := by rw [nb_eq (by decide) (by decide), pag0, Int.emod_one, Int.sub_zero]; unfold numI; rfl
theorem EK_of : ofE LK 2311527 3 = EK := by
  unfold ofE LK EK PK
  rw [show nbI ((2311527 : Nat) : Int) 1 = 512 by rw [nb_1]; decide]
  unfold permP; rfl
theorem EK_may : mayE EK = true := by unfold mayE EK; rw [pag1]; decide
theorem NK_may : mayE NK = false := by unfold mayE NK e0; decide
theorem e0_may : mayE e0 = true := by unfold mayE e0; decide
theorem cov_EK (a : Int) : covE EK a = (vaB a && ((512 : Int) == a / 4096 % 134217728 - a / 4096 % 134217728 % 512)) := by
  rw [covE_eq]; unfold EK; rw [nb_1]; simp
theorem EK_cov0 : covE EK 2097152 = true := by rw [cov_EK]; unfold vaB; decide
theorem EK_cov1 : covE EK 4194303 = true := by rw [cov_EK]; unfold vaB; decide
theorem EK_cov2 : covE EK 4194304 = false := by rw [cov_EK]; unfold vaB; decide
theorem EK_mat0 : matE EK 3 2097152 = true := by rw [matE_eq, EK_cov0]; unfold EK; decide
theorem EK_mat1 : matE EK 4 2097152 = false := by rw [matE_eq, EK_cov0]; unfold EK; decide
theorem FK_mat : matE FK 4 2097152 = true := by
  rw [matE_eq, show covE FK 2097152 = covE EK 2097152 by rw [covE_eq, covE_eq]; unfold FK EK; rfl, EK_cov0]; unfold FK; decide
theorem EK_phy : phyE EK 2097157 = 4194309 := by
  rw [phyE_eq]; unfold EK offI; simp only []; rw [siz1]; decide
theorem of_num {n : Int} (h0 : 0 ≤ n) (h1 : n < 67108864) : ofI n = n * 4096 := by
  unfold ofI; rw [if_pos (by omega)]; omega
theorem cov_0 {e : En} (h : e.l = 0) (hv : e.v = true) (a : Int) : covE e a = (vaB a && ((e.vp : Int) == a / 4096 % 134217728)) := by rw [covE_eq, h, nb_0, hv]; simp
theorem EK_over : overE EK GK = true := by
  rw [overE_eq, cov_EK, cov_0 (e := GK) rfl rfl]
  unfold GK EK
  simp only []
  rw [of_num (by decide) (by decide), of_num (by decide) (by decide)]; unfold vaB; decide
theorem EK_not : overE EK HK = false := by
  rw [overE_eq, cov_EK, cov_0 (e := HK) rfl rfl]
  unfold HK EK
  simp only []
  rw [of_num (by decide) (by decide), of_num (by decide) (by decide)]; unfold vaB; decide
theorem LK_build : Tryd.prog.built 26 [(0, .int .i64 1), (2, .agg (ptC PK))] = some (lfC LK) := by unfold LK; rw [lfC_def]; unfold PK; rw [ptC_def]; kernel_rfl
theorem PK_build : Tryd.prog.built 24 [(0, .bool true), (1, .bool true), (9, .int .u64 1024), (7, .bool true)] = some (ptC PK) := by unfold PK; rw [ptC_def]; kernel_rfl
theorem MK_build : Tryd.prog.built 28 [(0, .bool true)] = some (pmC ⟨true, false, false, false⟩) := by rw [pmC_def]; kernel_rfl
theorem EK_build : Tryd.prog.built 30 [(0, .bool true), (1, .int .u64 3), (3, .int .i64 1), (4, .int .u64 512), (5, .int .u64 1024), (6, .agg (pmC ⟨true, false, false, false⟩)), (7, .bool true)] = some (enC EK) := by unfold EK; rw [enC_def, pmC_def]; kernel_rfl
theorem GK_build : Tryd.prog.built 30 [(0, .bool true), (4, .int .u64 513)] = some (enC GK) := by unfold GK; rw [enC_def, pmC_def]; kernel_rfl
theorem HK_build : Tryd.prog.built 30 [(0, .bool true), (4, .int .u64 511)] = some (enC HK) := by unfold HK; rw [enC_def, pmC_def]; kernel_rfl
theorem NK_build : Tryd.prog.built 30 [(1, .int .u64 1)] = some (enC NK) := by unfold NK; rw [enC_def, pmC_def]; kernel_rfl
theorem FK_set : (enC EK).setIfInBounds 2 (.bool true) = enC FK := enC_set_g EK true
theorem K_ok : EK.ok ∧ NK.ok ∧ e0.ok := by unfold En.ok EK NK e0 Pm.ok; decide
theorem K_lv : LK.lv = 1 ∧ EK.l = 1 ∧ FK.l = 1 ∧ GK.l = 0 ∧ HK.l = 0 ∧ EK.vp = 512 ∧ GK.vp = 513 ∧ HK.vp = 511 ∧ EK.pp = 1024 := ⟨rfl, rfl, rfl, rfl, rfl, rfl, rfl, rfl, rfl⟩
attribute [irreducible] PK LK EK FK GK HK NK

attribute [local irreducible] World.setRow World.alloc Blk
set_option maxRecDepth 100000 in
set_option maxHeartbeats 4000000 in
theorem awake12_c (w : World) (hT : Siz w) :
    Calls Tryd.prog 8 #[] w fun e w' => e = .returned (.bool true) ∧ Ext w w' := by
  obtain ⟨k1, k2, k3, k4, k5, k6, k7, k8, k9⟩ := K_lv
  obtain ⟨o1, o2, o3⟩ := K_ok
  have cof := fun w h => of12_c LK (by omega) (by omega) 2311527 3 (by decide) w h
  rw [EK_of] at cof
  have cmy := fun w h => may12_c EK o1 w h
  rw [EK_may] at cmy
  have cmn := fun w h => may12_c NK o2 w h
  rw [NK_may] at cmn
  have cm0 := fun w h => may12_c e0 o3 w h
  rw [e0_may] at cm0
  have cc0 := fun w h => covers_c EK (fun _ => by omega) 2097152 (by decide) (by decide) w h
  rw [EK_cov0] at cc0
  have cc1 := fun w h => covers_c EK (fun _ => by omega) 4194303 (by decide) (by decide) w h
  rw [EK_cov1] at cc1
  have cc2 := fun w h => covers_c EK (fun _ => by omega) 4194304 (by decide) (by decide) w h
  rw [EK_cov2] at cc2
  have ca0 := fun w h => matches_c EK (fun _ => by omega) 3 2097152 (by decide) (by decide) (by decide) (by decide) w h
  rw [EK_mat0] at ca0
  have ca1 := fun w h => matches_c EK (fun _ => by omega) 4 2097152 (by decide) (by decide) (by decide) (by decide) w h
  rw [EK_mat1] at ca1
  have ca2 := fun w h => matches_c FK (fun _ => by omega) 4 2097152 (by decide) (by decide) (by decide) (by decide) w h
  rw [FK_mat] at ca2
  have cph := fun w h => physical12_c EK (by omega) (by omega) (by omega) 2097157 (by decide) (by decide) w h
  rw [EK_phy] at cph
  have cov := fun w h => over_c EK GK (fun _ => by omega) (fun _ => by omega) (by omega) (by omega) w h
  rw [EK_over] at cov
  have con := fun w h => over_c EK HK (fun _ => by omega) (fun _ => by omega) (by omega) (by omega) w h
  rw [EK_not] at con
  clear k1 k2 k3 k4 k5 k6 k7 k8 k9 o1 o2 o3
  have HE := Lib.hid (Ext.refl w)
  go_enter Tryd.func8, Tryd.ntmps8
  go_wp2_with ((first | (refine wpList_build_as (by rfl) rfl (PK_build) ?_) | (refine wpList_build_as (by rfl) rfl (LK_build) ?_))); refine (cof _ hT).mono ?_; rintro e w' ⟨rfl, hE⟩; (try replace hz := hz.ext hE); (try replace h1 := h1.ext hE); (try replace h2 := h2.ext hE); (try replace k1 := k1.ext hE); (try replace k2 := k2.ext hE); (try replace k3 := k3.ext hE); (try replace k4 := k4.ext hE); (try replace k5 := k5.ext hE); (try replace k6 := k6.ext hE); (try replace k7 := k7.ext hE); (try replace k8 := k8.ext hE); (try replace k9 := k9.ext hE); (try replace HT := Lib.hid (HT.out.ext hE)); (try replace HE := Lib.hid (HE.out.trans hE))
  clear hE cof
  have q0 := Blk.new w' 30 (enC EK)
  have z1 : Blk ((w'.alloc (.cells (enC EK) 30)).alloc (.cells #[.bool false, .int .u64 0, .bool false, .int .i64 0, .int .u64 0, .int .u64 0, .bool false, .bool false, .bool false, .bool false, .bool false] 30)) (w'.heap.size + 1) 30 #[.bool false, .int .u64 0, .bool false, .int .i64 0, .int .u64 0, .int .u64 0, .bool false, .bool false, .bool false, .bool false, .bool false] := blk_at (by simp)
  have z2 := z1.row (enC EK)
  have h1 := ((q0.alloc (.cells #[.bool false, .int .u64 0, .bool false, .int .i64 0, .int .u64 0, .int .u64 0, .bool false, .bool false, .bool false, .bool false, .bool false] 30)).apart (show w'.heap.size ≠ w'.heap.size + 1 by omega) (enC EK)).apart (show w'.heap.size ≠ w'.heap.size + 1 by omega) (enC FK)
  have h2 := z2.row (enC FK)
  have hz : w.heap.size ≤ w'.heap.size + 1 := by have := HE.out.size; omega
  replace HE := Lib.hid ((((HE.out.alloc (.cells (enC EK) 30)).alloc (.cells #[.bool false, .int .u64 0, .bool false, .int .i64 0, .int .u64 0, .int .u64 0, .bool false, .bool false, .bool false, .bool false, .bool false] 30)).row hz (enC EK)).row hz (enC FK))
  have HT := Lib.hid (hT.ext HE.out)
  clear hT hz
  have FS := FK_set
  go_wp2_with (first | (refine wpList_store_new rfl 30 _ _ rfl (enC _) _ _ rfl rfl (en_info _) (by simp [enC_size]) (enC_one _) ?_) | (refine wpList_load_blk (by rfl) 30 _ rfl rfl q0 Tryd.underlying30 rfl (by kernel_rfl) ?_) | (refine wpList_store_blk rfl 30 _ _ rfl rfl rfl z1 (en_info _) (by simp [enC_size]) (enC_one _) ?_) | (refine wpList_store_cell rfl 4 _ _ rfl rfl rfl z2 (by simp [enC_size]) (FS) (by kernel_rfl) rfl rfl ?_) | (refine wpList_load_blk (by rfl) 30 _ rfl rfl (by first | exact h1 | exact h2 | exact k1 | exact k2 | exact k3 | exact k4 | exact k5 | exact k6 | exact k7 | exact k8 | exact k9 | exact hz) Tryd.underlying30 rfl (by kernel_rfl) ?_) | (refine wpList_build_as (by rfl) rfl (MK_build) ?_) | (refine wpList_build_as (by rfl) rfl (EK_build) ?_) | (refine wpList_build_as (by rfl) rfl (GK_build) ?_) | (refine wpList_build_as (by rfl) rfl (HK_build) ?_) | (refine wpList_build_as (by rfl) rfl (NK_build) ?_) | (refine wpList_build_as (by rfl) rfl (e0_build) ?_) | (refine wpList_cmp (op := .eql) (by rfl) 30 rfl rfl rfl (en_guard) ((fun w => run_b (eql_en w _ _) (dec_same _))) ?_))
  clear FS q0 z1 z2
  refine (cmy _ HT.out).mono ?_; rintro e w' ⟨rfl, hE⟩; (try replace hz := hz.ext hE); (try replace h1 := h1.ext hE); (try replace h2 := h2.ext hE); (try replace k1 := k1.ext hE); (try replace k2 := k2.ext hE); (try replace k3 := k3.ext hE); (try replace k4 := k4.ext hE); (try replace k5 := k5.ext hE); (try replace k6 := k6.ext hE); (try replace k7 := k7.ext hE); (try replace k8 := k8.ext hE); (try replace k9 := k9.ext hE); (try replace HT := Lib.hid (HT.out.ext hE)); (try replace HE := Lib.hid (HE.out.trans hE)); clear hE
  clear cmy
  go_wp2_with ((first | (refine wpList_load_blk (by rfl) 30 _ rfl rfl (by first | exact h1 | exact h2 | exact k1 | exact k2 | exact k3 | exact k4 | exact k5 | exact k6 | exact k7 | exact k8 | exact k9 | exact hz) Tryd.underlying30 rfl (by kernel_rfl) ?_) | (refine wpList_build_as (by rfl) rfl (MK_build) ?_) | (refine wpList_build_as (by rfl) rfl (EK_build) ?_) | (refine wpList_build_as (by rfl) rfl (GK_build) ?_) | (refine wpList_build_as (by rfl) rfl (HK_build) ?_) | (refine wpList_build_as (by rfl) rfl (NK_build) ?_) | (refine wpList_build_as (by rfl) rfl (e0_build) ?_) | (refine wpList_cmp (op := .eql) (by rfl) 30 rfl rfl rfl (en_guard) ((fun w => run_b (eql_en w _ _) (dec_same _))) ?_))); refine (cc0 _ HT.out).mono ?_; rintro e w' ⟨rfl, hE⟩; (try replace hz := hz.ext hE); (try replace h1 := h1.ext hE); (try replace h2 := h2.ext hE); (try replace k1 := k1.ext hE); (try replace k2 := k2.ext hE); (try replace k3 := k3.ext hE); (try replace k4 := k4.ext hE); (try replace k5 := k5.ext hE); (try replace k6 := k6.ext hE); (try replace k7 := k7.ext hE); (try replace k8 := k8.ext hE); (try replace k9 := k9.ext hE); (try replace HT := Lib.hid (HT.out.ext hE)); (try replace HE := Lib.hid (HE.out.trans hE))
  clear hE cc0
  go_wp2_with ((first | (refine wpList_load_blk (by rfl) 30 _ rfl rfl (by first | exact h1 | exact h2 | exact k1 | exact k2 | exact k3 | exact k4 | exact k5 | exact k6 | exact k7 | exact k8 | exact k9 | exact hz) Tryd.underlying30 rfl (by kernel_rfl) ?_) | (refine wpList_build_as (by rfl) rfl (MK_build) ?_) | (refine wpList_build_as (by rfl) rfl (EK_build) ?_) | (refine wpList_build_as (by rfl) rfl (GK_build) ?_) | (refine wpList_build_as (by rfl) rfl (HK_build) ?_) | (refine wpList_build_as (by rfl) rfl (NK_build) ?_) | (refine wpList_build_as (by rfl) rfl (e0_build) ?_) | (refine wpList_cmp (op := .eql) (by rfl) 30 rfl rfl rfl (en_guard) ((fun w => run_b (eql_en w _ _) (dec_same _))) ?_))); refine (cc1 _ HT.out).mono ?_; rintro e w' ⟨rfl, hE⟩; (try replace hz := hz.ext hE); (try replace h1 := h1.ext hE); (try replace h2 := h2.ext hE); (try replace k1 := k1.ext hE); (try replace k2 := k2.ext hE); (try replace k3 := k3.ext hE); (try replace k4 := k4.ext hE); (try replace k5 := k5.ext hE); (try replace k6 := k6.ext hE); (try replace k7 := k7.ext hE); (try replace k8 := k8.ext hE); (try replace k9 := k9.ext hE); (try replace HT := Lib.hid (HT.out.ext hE)); (try replace HE := Lib.hid (HE.out.trans hE))
  clear hE cc1
  go_wp2_with ((first | (refine wpList_load_blk (by rfl) 30 _ rfl rfl (by first | exact h1 | exact h2 | exact k1 | exact k2 | exact k3 | exact k4 | exact k5 | exact k6 | exact k7 | exact k8 | exact k9 | exact hz) Tryd.underlying30 rfl (by kernel_rfl) ?_) | (refine wpList_build_as (by rfl) rfl (MK_build) ?_) | (refine wpList_build_as (by rfl) rfl (EK_build) ?_) | (refine wpList_build_as (by rfl) rfl (GK_build) ?_) | (refine wpList_build_as (by rfl) rfl (HK_build) ?_) | (refine wpList_build_as (by rfl) rfl (NK_build) ?_) | (refine wpList_build_as (by rfl) rfl (e0_build) ?_) | (refine wpList_cmp (op := .eql) (by rfl) 30 rfl rfl rfl (en_guard) ((fun w => run_b (eql_en w _ _) (dec_same _))) ?_))); refine (cc2 _ HT.out).mono ?_; rintro e w' ⟨rfl, hE⟩; (try replace hz := hz.ext hE); (try replace h1 := h1.ext hE); (try replace h2 := h2.ext hE); (try replace k1 := k1.ext hE); (try replace k2 := k2.ext hE); (try replace k3 := k3.ext hE); (try replace k4 := k4.ext hE); (try replace k5 := k5.ext hE); (try replace k6 := k6.ext hE); (try replace k7 := k7.ext hE); (try replace k8 := k8.ext hE); (try replace k9 := k9.ext hE); (try replace HT := Lib.hid (HT.out.ext hE)); (try replace HE := Lib.hid (HE.out.trans hE))
  clear hE cc2
  go_wp2_with ((first | (refine wpList_load_blk (by rfl) 30 _ rfl rfl (by first | exact h1 | exact h2 | exact k1 | exact k2 | exact k3 | exact k4 | exact k5 | exact k6 | exact k7 | exact k8 | exact k9 | exact hz) Tryd.underlying30 rfl (by kernel_rfl) ?_) | (refine wpList_build_as (by rfl) rfl (MK_build) ?_) | (refine wpList_build_as (by rfl) rfl (EK_build) ?_) | (refine wpList_build_as (by rfl) rfl (GK_build) ?_) | (refine wpList_build_as (by rfl) rfl (HK_build) ?_) | (refine wpList_build_as (by rfl) rfl (NK_build) ?_) | (refine wpList_build_as (by rfl) rfl (e0_build) ?_) | (refine wpList_cmp (op := .eql) (by rfl) 30 rfl rfl rfl (en_guard) ((fun w => run_b (eql_en w _ _) (dec_same _))) ?_))); refine (ca0 _ HT.out).mono ?_; rintro e w' ⟨rfl, hE⟩; (try replace hz := hz.ext hE); (try replace h1 := h1.ext hE); (try replace h2 := h2.ext hE); (try replace k1 := k1.ext hE); (try replace k2 := k2.ext hE); (try replace k3 := k3.ext hE); (try replace k4 := k4.ext hE); (try replace k5 := k5.ext hE); (try replace k6 := k6.ext hE); (try replace k7 := k7.ext hE); (try replace k8 := k8.ext hE); (try replace k9 := k9.ext hE); (try replace HT := Lib.hid (HT.out.ext hE)); (try replace HE := Lib.hid (HE.out.trans hE))
  clear hE ca0
  go_wp2_with ((first | (refine wpList_load_blk (by rfl) 30 _ rfl rfl (by first | exact h1 | exact h2 | exact k1 | exact k2 | exact k3 | exact k4 | exact k5 | exact k6 | exact k7 | exact k8 | exact k9 | exact hz) Tryd.underlying30 rfl (by kernel_rfl) ?_) | (refine wpList_build_as (by rfl) rfl (MK_build) ?_) | (refine wpList_build_as (by rfl) rfl (EK_build) ?_) | (refine wpList_build_as (by rfl) rfl (GK_build) ?_) | (refine wpList_build_as (by rfl) rfl (HK_build) ?_) | (refine wpList_build_as (by rfl) rfl (NK_build) ?_) | (refine wpList_build_as (by rfl) rfl (e0_build) ?_) | (refine wpList_cmp (op := .eql) (by rfl) 30 rfl rfl rfl (en_guard) ((fun w => run_b (eql_en w _ _) (dec_same _))) ?_))); refine (ca1 _ HT.out).mono ?_; rintro e w' ⟨rfl, hE⟩; (try replace hz := hz.ext hE); (try replace h1 := h1.ext hE); (try replace h2 := h2.ext hE); (try replace k1 := k1.ext hE); (try replace k2 := k2.ext hE); (try replace k3 := k3.ext hE); (try replace k4 := k4.ext hE); (try replace k5 := k5.ext hE); (try replace k6 := k6.ext hE); (try replace k7 := k7.ext hE); (try replace k8 := k8.ext hE); (try replace k9 := k9.ext hE); (try replace HT := Lib.hid (HT.out.ext hE)); (try replace HE := Lib.hid (HE.out.trans hE))
  clear hE ca1
  go_wp2_with ((first | (refine wpList_load_blk (by rfl) 30 _ rfl rfl (by first | exact h1 | exact h2 | exact k1 | exact k2 | exact k3 | exact k4 | exact k5 | exact k6 | exact k7 | exact k8 | exact k9 | exact hz) Tryd.underlying30 rfl (by kernel_rfl) ?_) | (refine wpList_build_as (by rfl) rfl (MK_build) ?_) | (refine wpList_build_as (by rfl) rfl (EK_build) ?_) | (refine wpList_build_as (by rfl) rfl (GK_build) ?_) | (refine wpList_build_as (by rfl) rfl (HK_build) ?_) | (refine wpList_build_as (by rfl) rfl (NK_build) ?_) | (refine wpList_build_as (by rfl) rfl (e0_build) ?_) | (refine wpList_cmp (op := .eql) (by rfl) 30 rfl rfl rfl (en_guard) ((fun w => run_b (eql_en w _ _) (dec_same _))) ?_))); refine (ca2 _ HT.out).mono ?_; rintro e w' ⟨rfl, hE⟩; (try replace hz := hz.ext hE); (try replace h1 := h1.ext hE); (try replace h2 := h2.ext hE); (try replace k1 := k1.ext hE); (try replace k2 := k2.ext hE); (try replace k3 := k3.ext hE); (try replace k4 := k4.ext hE); (try replace k5 := k5.ext hE); (try replace k6 := k6.ext hE); (try replace k7 := k7.ext hE); (try replace k8 := k8.ext hE); (try replace k9 := k9.ext hE); (try replace HT := Lib.hid (HT.out.ext hE)); (try replace HE := Lib.hid (HE.out.trans hE))
  clear hE ca2
  go_wp2_with ((first | (refine wpList_load_blk (by rfl) 30 _ rfl rfl (by first | exact h1 | exact h2 | exact k1 | exact k2 | exact k3 | exact k4 | exact k5 | exact k6 | exact k7 | exact k8 | exact k9 | exact hz) Tryd.underlying30 rfl (by kernel_rfl) ?_) | (refine wpList_build_as (by rfl) rfl (MK_build) ?_) | (refine wpList_build_as (by rfl) rfl (EK_build) ?_) | (refine wpList_build_as (by rfl) rfl (GK_build) ?_) | (refine wpList_build_as (by rfl) rfl (HK_build) ?_) | (refine wpList_build_as (by rfl) rfl (NK_build) ?_) | (refine wpList_build_as (by rfl) rfl (e0_build) ?_) | (refine wpList_cmp (op := .eql) (by rfl) 30 rfl rfl rfl (en_guard) ((fun w => run_b (eql_en w _ _) (dec_same _))) ?_))); refine (cph _ HT.out).mono ?_; rintro e w' ⟨rfl, hE⟩; (try replace hz := hz.ext hE); (try replace h1 := h1.ext hE); (try replace h2 := h2.ext hE); (try replace k1 := k1.ext hE); (try replace k2 := k2.ext hE); (try replace k3 := k3.ext hE); (try replace k4 := k4.ext hE); (try replace k5 := k5.ext hE); (try replace k6 := k6.ext hE); (try replace k7 := k7.ext hE); (try replace k8 := k8.ext hE); (try replace k9 := k9.ext hE); (try replace HT := Lib.hid (HT.out.ext hE)); (try replace HE := Lib.hid (HE.out.trans hE))
  clear hE cph
  go_wp2_with ((first | (refine wpList_load_blk (by rfl) 30 _ rfl rfl (by first | exact h1 | exact h2 | exact k1 | exact k2 | exact k3 | exact k4 | exact k5 | exact k6 | exact k7 | exact k8 | exact k9 | exact hz) Tryd.underlying30 rfl (by kernel_rfl) ?_) | (refine wpList_build_as (by rfl) rfl (MK_build) ?_) | (refine wpList_build_as (by rfl) rfl (EK_build) ?_) | (refine wpList_build_as (by rfl) rfl (GK_build) ?_) | (refine wpList_build_as (by rfl) rfl (HK_build) ?_) | (refine wpList_build_as (by rfl) rfl (NK_build) ?_) | (refine wpList_build_as (by rfl) rfl (e0_build) ?_) | (refine wpList_cmp (op := .eql) (by rfl) 30 rfl rfl rfl (en_guard) ((fun w => run_b (eql_en w _ _) (dec_same _))) ?_))); refine (cov _ HT.out).mono ?_; rintro e w' ⟨rfl, hE⟩; (try replace hz := hz.ext hE); (try replace h1 := h1.ext hE); (try replace h2 := h2.ext hE); (try replace k1 := k1.ext hE); (try replace k2 := k2.ext hE); (try replace k3 := k3.ext hE); (try replace k4 := k4.ext hE); (try replace k5 := k5.ext hE); (try replace k6 := k6.ext hE); (try replace k7 := k7.ext hE); (try replace k8 := k8.ext hE); (try replace k9 := k9.ext hE); (try replace HT := Lib.hid (HT.out.ext hE)); (try replace HE := Lib.hid (HE.out.trans hE))
  clear hE cov
  go_wp2_with ((first | (refine wpList_load_blk (by rfl) 30 _ rfl rfl (by first | exact h1 | exact h2 | exact k1 | exact k2 | exact k3 | exact k4 | exact k5 | exact k6 | exact k7 | exact k8 | exact k9 | exact hz) Tryd.underlying30 rfl (by kernel_rfl) ?_) | (refine wpList_build_as (by rfl) rfl (MK_build) ?_) | (refine wpList_build_as (by rfl) rfl (EK_build) ?_) | (refine wpList_build_as (by rfl) rfl (GK_build) ?_) | (refine wpList_build_as (by rfl) rfl (HK_build) ?_) | (refine wpList_build_as (by rfl) rfl (NK_build) ?_) | (refine wpList_build_as (by rfl) rfl (e0_build) ?_) | (refine wpList_cmp (op := .eql) (by rfl) 30 rfl rfl rfl (en_guard) ((fun w => run_b (eql_en w _ _) (dec_same _))) ?_))); refine (con _ HT.out).mono ?_; rintro e w' ⟨rfl, hE⟩; (try replace hz := hz.ext hE); (try replace h1 := h1.ext hE); (try replace h2 := h2.ext hE); (try replace k1 := k1.ext hE); (try replace k2 := k2.ext hE); (try replace k3 := k3.ext hE); (try replace k4 := k4.ext hE); (try replace k5 := k5.ext hE); (try replace k6 := k6.ext hE); (try replace k7 := k7.ext hE); (try replace k8 := k8.ext hE); (try replace k9 := k9.ext hE); (try replace HT := Lib.hid (HT.out.ext hE)); (try replace HE := Lib.hid (HE.out.trans hE))
  clear hE con
  go_wp2_with ((first | (refine wpList_load_blk (by rfl) 30 _ rfl rfl (by first | exact h1 | exact h2 | exact k1 | exact k2 | exact k3 | exact k4 | exact k5 | exact k6 | exact k7 | exact k8 | exact k9 | exact hz) Tryd.underlying30 rfl (by kernel_rfl) ?_) | (refine wpList_build_as (by rfl) rfl (MK_build) ?_) | (refine wpList_build_as (by rfl) rfl (EK_build) ?_) | (refine wpList_build_as (by rfl) rfl (GK_build) ?_) | (refine wpList_build_as (by rfl) rfl (HK_build) ?_) | (refine wpList_build_as (by rfl) rfl (NK_build) ?_) | (refine wpList_build_as (by rfl) rfl (e0_build) ?_) | (refine wpList_cmp (op := .eql) (by rfl) 30 rfl rfl rfl (en_guard) ((fun w => run_b (eql_en w _ _) (dec_same _))) ?_))); refine (cmn _ HT.out).mono ?_; rintro e w' ⟨rfl, hE⟩; (try replace hz := hz.ext hE); (try replace h1 := h1.ext hE); (try replace h2 := h2.ext hE); (try replace k1 := k1.ext hE); (try replace k2 := k2.ext hE); (try replace k3 := k3.ext hE); (try replace k4 := k4.ext hE); (try replace k5 := k5.ext hE); (try replace k6 := k6.ext hE); (try replace k7 := k7.ext hE); (try replace k8 := k8.ext hE); (try replace k9 := k9.ext hE); (try replace HT := Lib.hid (HT.out.ext hE)); (try replace HE := Lib.hid (HE.out.trans hE))
  clear hE cmn
  go_wp2_with ((first | (refine wpList_load_blk (by rfl) 30 _ rfl rfl (by first | exact h1 | exact h2 | exact k1 | exact k2 | exact k3 | exact k4 | exact k5 | exact k6 | exact k7 | exact k8 | exact k9 | exact hz) Tryd.underlying30 rfl (by kernel_rfl) ?_) | (refine wpList_build_as (by rfl) rfl (MK_build) ?_) | (refine wpList_build_as (by rfl) rfl (EK_build) ?_) | (refine wpList_build_as (by rfl) rfl (GK_build) ?_) | (refine wpList_build_as (by rfl) rfl (HK_build) ?_) | (refine wpList_build_as (by rfl) rfl (NK_build) ?_) | (refine wpList_build_as (by rfl) rfl (e0_build) ?_) | (refine wpList_cmp (op := .eql) (by rfl) 30 rfl rfl rfl (en_guard) ((fun w => run_b (eql_en w _ _) (dec_same _))) ?_))); refine (cm0 _ HT.out).mono ?_; rintro e w' ⟨rfl, hE⟩; (try replace hz := hz.ext hE); (try replace h1 := h1.ext hE); (try replace h2 := h2.ext hE); (try replace k1 := k1.ext hE); (try replace k2 := k2.ext hE); (try replace k3 := k3.ext hE); (try replace k4 := k4.ext hE); (try replace k5 := k5.ext hE); (try replace k6 := k6.ext hE); (try replace k7 := k7.ext hE); (try replace k8 := k8.ext hE); (try replace k9 := k9.ext hE); (try replace HT := Lib.hid (HT.out.ext hE)); (try replace HE := Lib.hid (HE.out.trans hE))
  clear hE cm0
  go_wp2
  go_ret
  exact ⟨rfl, HE.out⟩
end Go.Proofs.YtklickoclgjnkaaDoor
