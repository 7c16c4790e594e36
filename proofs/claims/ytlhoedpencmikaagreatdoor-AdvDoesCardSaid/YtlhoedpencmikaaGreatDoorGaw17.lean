/- Layer 17: what awake's calls come to, reckoned. No program. -/
import Derived.Test.YtlhoedpencmikaaGreatDoorGadc
namespace Go.Proofs.YtlhoedpencmikaaGreatDoor
set_option maxRecDepth 100000
set_option linter.unusedVariables false

def bM : List (Nat × Nat) := [(512, 9)]
def bM2 : List (Nat × Nat) := [(512, 73)]
def bH : Hr := ⟨List.replicate 1 s0, ⟨8, 1, 1⟩, 0, false, false, -1⟩
def bA : Hr := ⟨List.replicate 1 s0, ⟨8, 1, 1⟩, 0, false, false, 2⟩
def bD : Hr := brH 8192 bM bA 5
def bE : Hr := evH bD 0 2
theorem bM_len : bM.length = 1 := rfl
theorem bM2_len : bM2.length = 1 := rfl
theorem bM_is : RL 1024 bM := by
  refine ⟨by simp [bM], fun c hc => ?_⟩
  simp [bM] at hc
  subst hc
  decide
theorem bPi2 : piH bH 2 = bA ∧ piG 2 = 0 := ⟨by decide +kernel, by decide +kernel⟩
theorem bPi4 : piH bH 4 = bH ∧ piG 4 = 1 := ⟨by decide +kernel, by decide +kernel⟩
theorem bBr : brM 8192 bM bA 5 = bM2 := by decide +kernel
theorem bD_vi : bD.vi = -1 := by decide +kernel
theorem bD_len : bD.L.length = 1 := by decide +kernel
theorem bD_way : ((sT bD.L 0).ws.at 2).v = true := by decide +kernel
theorem bEv : evG bD 0 2 = 0 ∧ evG bD 1 0 = 1 := ⟨by decide +kernel, by decide +kernel⟩
theorem bE_all : (allT bE.L).length = 0 := by decide +kernel
theorem bNo : brH 8192 bM bH 1073741824 = bH ∧ brM 8192 bM bH 1073741824 = bM := ⟨by decide +kernel, by decide +kernel⟩
theorem bH_r : rightH bH = true := by decide +kernel
theorem bA_r : rightH bA = true := by decide +kernel
theorem bD_r : rightH bD = true := by decide +kernel
theorem bE_r : rightH bE = true := by decide +kernel
theorem bM2_val : vlN bM2 0 = 73 := by decide +kernel
theorem bA_vi : bA.vi = 2 := rfl
theorem bD_eq : brH 8192 bM bA 5 = bD := by unfold bD; rfl
theorem bE_eq : evH bD 0 2 = bE := by unfold bE; rfl
theorem bH_ok : bH.ok := by
  have hr := (right_split bH_r).1
  unfold bH at hr ⊢
  exact ⟨by unfold Sp.ok; simp, by decide, by decide, fun i hi => rt_ok hr hi⟩
theorem bA_ok : bA.ok := by
  have hr := (right_split bA_r).1
  unfold bA at hr ⊢
  exact ⟨by unfold Sp.ok; simp, by decide, by decide, fun i hi => rt_ok hr hi⟩
attribute [irreducible] bM bM2 bH bA bD bE
end Go.Proofs.YtlhoedpencmikaaGreatDoor
/- Layer 17: awake answers true, over the package's contracts (AdvC). -/
namespace Go.Proofs.YtlhoedpencmikaaGreatDoor
open Go.ChangeShapes Go.WideShapes Go.ChangeAt Go.RowKit
set_option linter.unusedVariables false
set_option linter.unusedSimpArgs false
set_option maxRecDepth 100000

theorem bH_L : bH.L = List.replicate 1 s0 := by unfold bH; rfl
theorem bHC (A : Option Addr) : hrC ⟨A, 1, bH⟩ = #[.slice A 1 1, .int .u64 8, .int .u64 1, .int .u64 1, .int .i64 0, .bool false, .bool false, .int .i64 (-1)] := by rw [hrC_eq]; unfold bH; rfl
theorem bA_L : bA.L = bH.L := by unfold bA bH; rfl
theorem bM_row (w : World) : RowL (w.alloc (.cells #[.int .u64 512, .int .u64 9] 62)) (some ⟨w.heap.size, 0, none⟩) bM 1 := by
  unfold bM
  refine ⟨fun _ => ⟨w.heap.size, 0, rfl, by simp, fun i hi => ?_⟩, fun e => (by cases e), by decide, by decide⟩
  obtain rfl : i = 0 := by simpa using hi
  rw [World.cell?_alloc_at _ _ _ _ rfl, World.cell?_alloc_at _ _ _ _ rfl]
  exact ⟨by simp [atN], by simp [vlN]⟩
attribute [local irreducible] World.setRow World.alloc Blk
set_option maxHeartbeats 16000000 in
theorem awake17_c (C : AdvC) : Awk17 := by
  intro w hT
  obtain ⟨W0, hW⟩ : ∃ W0, W0 = (w.alloc (.cells #[.int .u64 512, .int .u64 9] 62)).alloc (.cells #[.int .u64 8192, .slice (some ⟨w.heap.size, 0, none⟩) 1 1] 32) := ⟨_, rfl⟩
  have HE : Hid (Ext w W0) := Lib.hid (by rw [hW]; exact ((Ext.refl w).alloc _).alloc _)
  have hM : Mem W0 8192 (some ⟨w.heap.size, 0, none⟩) bM 1 := ⟨by rw [hW]; exact (bM_row w).ext ((Ext.refl _).alloc _), bM_is, by decide, by rw [bM_len]; decide⟩
  have h1 : Blk W0 (w.heap.size + 1) 32 #[.int .u64 8192, .slice (some ⟨w.heap.size, 0, none⟩) 1 1] := by rw [hW]; exact blk_at (by simp)
  have hTE : ∀ W : World, Ext w W → Layh W := fun W e => hT.ext e
  have cp1 := fun A W => C.pick A bH 1 2 W (by decide)
  have cp2 := fun A W => C.pick A bH 1 4 W (by decide)
  rw [bPi2.1, bPi2.2] at cp1
  rw [bPi4.1, bPi4.2] at cp2
  have cb1 := fun A W r m t => C.bring A bA 1 8192 (some ⟨w.heap.size, 0, none⟩) bM 1 5 1 W bA_r bA_ok (by decide) (by decide) r m (by rw [bM_len]; decide) t
  have cb2 := fun A W r m t => C.bring A bH 1 8192 (some ⟨w.heap.size, 0, none⟩) bM 1 1073741824 1 W bH_r bH_ok (by decide) (by decide) r m (by rw [bM_len]; decide) t
  have ce1 := fun A c W r t => C.evict A bD c 0 2 W bD_r (by decide) (by decide) r t
  have ce2 := fun A c W r t => C.evict A bD c 1 0 W bD_r (by decide) (by decide) r t
  unfold BrT at cb1 cb2
  unfold EvT at ce1 ce2
  simp only [bBr, bD_eq, bM_len, bM2_len] at cb1
  simp only [bNo.1, bNo.2, bM_len] at cb2
  simp only [bE_eq, bEv.1] at ce1
  simp only [bEv.2] at ce2
  generalize evH bD 1 0 = HG at ce2
  have hmk : ∀ W : World, (Instr.makeSlice 22 (.int .i64 1) (.int .i64 1)).run Tryz.prog W = .ok (.slice (some ⟨W.heap.size, 0, none⟩) 1 1) (W.alloc (.cells (zsC 1) 69)) := make_zs 1 (by decide)
  have hzs := fun W => zs_row 1 (by decide) W
  generalize zsC 1 = zs at *
  have HW := Lib.hid hW
  clear hW
  go_enter Tryz.func6, Tryz.ntmps6
  go_upto_region 2 with fail
  rw [← HW.out]
  clear HW
  have r1 : RowV KS (W0.alloc (.cells zs 69)) (some ⟨W0.heap.size, 0, none⟩) bH.L 1 := by rw [bH_L]; exact hzs W0
  have hE := (Ext.refl W0).alloc (.cells zs 69)
  have h1k := h1
  replace h1 := h1.ext hE
  replace hM := hM.ext hE
  replace HE := Lib.hid (HE.out.trans hE)
  clear hE h1k
  have hE := (Ext.refl (W0.alloc (.cells zs 69))).alloc (.cells #[.slice (some ⟨W0.heap.size, 0, none⟩) 1 1, .int .u64 8, .int .u64 1, .int .u64 1, .int .i64 0, .bool false, .bool false, .int .i64 (-1)] 29)
  have h2n : Blk ((W0.alloc (.cells zs 69)).alloc (.cells #[.slice (some ⟨W0.heap.size, 0, none⟩) 1 1, .int .u64 8, .int .u64 1, .int .u64 1, .int .i64 0, .bool false, .bool false, .int .i64 (-1)] 29)) (W0.heap.size + 1) 29 (hrC ⟨some ⟨W0.heap.size, 0, none⟩, 1, bH⟩) := by
    have q := Blk.new (W0.alloc (.cells zs 69)) 29 #[.slice (some ⟨W0.heap.size, 0, none⟩) 1 1, .int .u64 8, .int .u64 1, .int .u64 1, .int .i64 0, .bool false, .bool false, .int .i64 (-1)]
    rw [World.size_alloc] at q
    rw [bHC]
    exact q
  replace h1 := h1.ext hE
  replace hM := hM.ext hE
  replace r1 := r1.ext hE
  replace HE := Lib.hid (HE.out.trans hE)
  clear hE
  have h2 := h2n
  clear h2n
  go_upto_region 3 with fail
  (try simp only [Act.put, List.setIfInBounds_toArray, List.set_cons_zero, List.set_cons_succ])
  generalize hg2 : W0.heap.size = g2 at *
  clear hg2
  generalize (W0.alloc (.cells zs 69)).alloc (.cells #[.slice (some ⟨g2, 0, none⟩) 1 1, .int .u64 8, .int .u64 1, .int .u64 1, .int .i64 0, .bool false, .bool false, .int .i64 (-1)] 29) = Y0 at *
  have hrA : ∀ W : World, Ext Y0 W → RowV KS W (some ⟨g2, 0, none⟩) bA.L 1 := fun W e => by rw [bA_L]; exact r1.ext e
  have hrH : ∀ W : World, Ext Y0 W → RowV KS W (some ⟨g2, 0, none⟩) bH.L 1 := fun W e => r1.ext e
  have hMX : ∀ W : World, Ext Y0 W → Mem W 8192 (some ⟨w.heap.size, 0, none⟩) bM 1 := fun W e => hM.ext e
  have HF := HE
  replace HE := Lib.hid (Ext.refl Y0)
  clear r1 hM
  go_wp2_with ((refine wpList_load_blk (by rfl) 29 _ rfl rfl h2 Tryz.underlying29 rfl (by kernel_rfl) ?_)); refine (cp1 _ _).mono ?_; rintro e w' ⟨rfl, hE⟩; (try replace h1 := h1.ext hE); (try replace h2 := h2.ext hE); (try replace h3 := h3.ext hE); (try replace h4 := h4.ext hE); (try replace h5 := h5.ext hE); (try replace h6 := h6.ext hE); (try replace h7 := h7.ext hE); (try replace h8 := h8.ext hE); (try replace h9 := h9.ext hE); (try replace hM := hM.ext hE); (try replace hN := hN.ext hE); (try replace hO := hO.ext hE); (try replace HE := Lib.hid (HE.out.trans hE)); (try replace HF := Lib.hid (HF.out.trans hE)); (try replace r0 := r0.ext hE); (try replace r1 := r1.ext hE); (try replace r2 := r2.ext hE); (try replace r3 := r3.ext hE); (try replace r4 := r4.ext hE); (try replace r5 := r5.ext hE); (try replace r6 := r6.ext hE); clear hE
  clear cp1
  obtain ⟨zz1, hE, h3⟩ := nh1 w' (hrC ⟨some ⟨g2, 0, none⟩, 1, bA⟩); (try replace h1 := h1.ext hE); (try replace h2 := h2.ext hE); (try replace h3 := h3.ext hE); (try replace h4 := h4.ext hE); (try replace h5 := h5.ext hE); (try replace h6 := h6.ext hE); (try replace h7 := h7.ext hE); (try replace h8 := h8.ext hE); (try replace h9 := h9.ext hE); (try replace hM := hM.ext hE); (try replace hN := hN.ext hE); (try replace hO := hO.ext hE); (try replace HE := Lib.hid (HE.out.trans hE)); (try replace HF := Lib.hid (HF.out.trans hE)); (try replace r0 := r0.ext hE); (try replace r1 := r1.ext hE); (try replace r2 := r2.ext hE); (try replace r3 := r3.ext hE); (try replace r4 := r4.ext hE); (try replace r5 := r5.ext hE); (try replace r6 := r6.ext hE); clear hE
  go_wp2_with (first | ((refine wpList_store_blk rfl 29 _ _ rfl rfl rfl zz1 (hr_info _) (by simp [hrC_size]) (hrC_one _) ?_); clear zz1; generalize (w'.alloc (.cells #[.slice none 0 0, .int .u64 0, .int .u64 0, .int .u64 0, .int .i64 0, .bool false, .bool false, .int .i64 0] 29)).setRow w'.heap.size (hrC ⟨some ⟨g2, 0, none⟩, 1, bA⟩) = X at *) | (refine wpList_load_blk (by rfl) 29 _ rfl rfl h2 Tryz.underlying29 rfl (by kernel_rfl) ?_))
  generalize w'.heap.size = g3 at *
  refine (cp2 _ _).mono ?_
  rintro r5 w' ⟨rfl, hE⟩
  (try replace h1 := h1.ext hE); (try replace h2 := h2.ext hE); (try replace h3 := h3.ext hE); (try replace h4 := h4.ext hE); (try replace h5 := h5.ext hE); (try replace h6 := h6.ext hE); (try replace h7 := h7.ext hE); (try replace h8 := h8.ext hE); (try replace h9 := h9.ext hE); (try replace hM := hM.ext hE); (try replace hN := hN.ext hE); (try replace hO := hO.ext hE); (try replace HE := Lib.hid (HE.out.trans hE)); (try replace HF := Lib.hid (HF.out.trans hE)); (try replace r0 := r0.ext hE); (try replace r1 := r1.ext hE); (try replace r2 := r2.ext hE); (try replace r3 := r3.ext hE); (try replace r4 := r4.ext hE); (try replace r5 := r5.ext hE); (try replace r6 := r6.ext hE)
  clear hE cp2
  obtain ⟨zz1, hE, h4⟩ := nh1 w' (hrC ⟨some ⟨g2, 0, none⟩, 1, bH⟩); (try replace h1 := h1.ext hE); (try replace h2 := h2.ext hE); (try replace h3 := h3.ext hE); (try replace h4 := h4.ext hE); (try replace h5 := h5.ext hE); (try replace h6 := h6.ext hE); (try replace h7 := h7.ext hE); (try replace h8 := h8.ext hE); (try replace h9 := h9.ext hE); (try replace hM := hM.ext hE); (try replace hN := hN.ext hE); (try replace hO := hO.ext hE); (try replace HE := Lib.hid (HE.out.trans hE)); (try replace HF := Lib.hid (HF.out.trans hE)); (try replace r0 := r0.ext hE); (try replace r1 := r1.ext hE); (try replace r2 := r2.ext hE); (try replace r3 := r3.ext hE); (try replace r4 := r4.ext hE); (try replace r5 := r5.ext hE); (try replace r6 := r6.ext hE); clear hE
  go_wp2_with (first | ((refine wpList_store_blk rfl 29 _ _ rfl rfl rfl zz1 (hr_info _) (by simp [hrC_size]) (hrC_one _) ?_); clear zz1; generalize (w'.alloc (.cells #[.slice none 0 0, .int .u64 0, .int .u64 0, .int .u64 0, .int .i64 0, .bool false, .bool false, .int .i64 0] 29)).setRow w'.heap.size (hrC ⟨some ⟨g2, 0, none⟩, 1, bH⟩) = X at *) | (refine wpList_load_blk (by rfl) 29 _ rfl rfl h3 Tryz.underlying29 rfl (by kernel_rfl) ?_) | (refine wpList_load_blk (by rfl) 32 _ rfl rfl h1 Tryz.underlying32 rfl (by kernel_rfl) ?_))
  generalize w'.heap.size = g4 at *
  clear h4
  refine (cb1 _ _ (hrA _ HE.out) (hMX _ HE.out) (hTE _ HF.out)).mono ?_
  rintro r5 w' ⟨AD, BD, cD, dD, rfl, r1, hN, hE, -⟩
  (try replace h1 := h1.ext hE); (try replace h2 := h2.ext hE); (try replace h3 := h3.ext hE); (try replace h4 := h4.ext hE); (try replace h5 := h5.ext hE); (try replace h6 := h6.ext hE); (try replace h7 := h7.ext hE); (try replace h8 := h8.ext hE); (try replace h9 := h9.ext hE); (try replace hM := hM.ext hE); (try replace hN := hN.ext hE); (try replace hO := hO.ext hE); (try replace HE := Lib.hid (HE.out.trans hE)); (try replace HF := Lib.hid (HF.out.trans hE)); (try replace r0 := r0.ext hE); (try replace r1 := r1.ext hE); (try replace r2 := r2.ext hE); (try replace r3 := r3.ext hE); (try replace r4 := r4.ext hE); (try replace r5 := r5.ext hE); (try replace r6 := r6.ext hE)
  clear hE cb1
  obtain ⟨zz1, zz2, hE, h5, h6⟩ := nh2 w' (hrC ⟨AD, cD, bD⟩) #[.int .u64 ((8192 : Nat) : Int), .slice BD 1 dD]; (try replace h1 := h1.ext hE); (try replace h2 := h2.ext hE); (try replace h3 := h3.ext hE); (try replace h4 := h4.ext hE); (try replace h5 := h5.ext hE); (try replace h6 := h6.ext hE); (try replace h7 := h7.ext hE); (try replace h8 := h8.ext hE); (try replace h9 := h9.ext hE); (try replace hM := hM.ext hE); (try replace hN := hN.ext hE); (try replace hO := hO.ext hE); (try replace HE := Lib.hid (HE.out.trans hE)); (try replace HF := Lib.hid (HF.out.trans hE)); (try replace r0 := r0.ext hE); (try replace r1 := r1.ext hE); (try replace r2 := r2.ext hE); (try replace r3 := r3.ext hE); (try replace r4 := r4.ext hE); (try replace r5 := r5.ext hE); (try replace r6 := r6.ext hE); clear hE
  go_wp2_with (first | (first | (refine wpList_store_blk rfl 29 _ _ rfl rfl rfl zz1 (hr_info _) (by simp [hrC_size]) (hrC_one _) ?_) | ((refine wpList_store_blk rfl 32 _ _ rfl rfl rfl zz2 (by kernel_rfl) (by rfl) (by simp [Value.oneCell']) ?_); clear zz1 zz2; generalize (((w'.alloc (.cells #[.slice none 0 0, .int .u64 0, .int .u64 0, .int .u64 0, .int .i64 0, .bool false, .bool false, .int .i64 0] 29)).alloc (.cells #[.int .u64 0, .slice none 0 0] 32)).setRow w'.heap.size (hrC ⟨AD, cD, bD⟩)).setRow (w'.heap.size + 1) #[.int .u64 ((8192 : Nat) : Int), .slice BD 1 dD] = X at *)) | (refine wpList_load_blk (by rfl) 29 _ rfl rfl h5 Tryz.underlying29 rfl (by kernel_rfl) ?_))
  generalize w'.heap.size = g5 at *
  refine (ce1 _ _ _ r1 (hTE _ HF.out)).mono ?_
  rintro r5 w' ⟨AE, cE, rfl, r2, hE⟩
  (try replace h1 := h1.ext hE); (try replace h2 := h2.ext hE); (try replace h3 := h3.ext hE); (try replace h4 := h4.ext hE); (try replace h5 := h5.ext hE); (try replace h6 := h6.ext hE); (try replace h7 := h7.ext hE); (try replace h8 := h8.ext hE); (try replace h9 := h9.ext hE); (try replace hM := hM.ext hE); (try replace hN := hN.ext hE); (try replace hO := hO.ext hE); (try replace HE := Lib.hid (HE.out.trans hE)); (try replace HF := Lib.hid (HF.out.trans hE)); (try replace r0 := r0.ext hE); (try replace r1 := r1.ext hE); (try replace r2 := r2.ext hE); (try replace r3 := r3.ext hE); (try replace r4 := r4.ext hE); (try replace r5 := r5.ext hE); (try replace r6 := r6.ext hE)
  clear hE ce1
  obtain ⟨zz1, hE, h7⟩ := nh1 w' (hrC ⟨AE, cE, bE⟩); (try replace h1 := h1.ext hE); (try replace h2 := h2.ext hE); (try replace h3 := h3.ext hE); (try replace h4 := h4.ext hE); (try replace h5 := h5.ext hE); (try replace h6 := h6.ext hE); (try replace h7 := h7.ext hE); (try replace h8 := h8.ext hE); (try replace h9 := h9.ext hE); (try replace hM := hM.ext hE); (try replace hN := hN.ext hE); (try replace hO := hO.ext hE); (try replace HE := Lib.hid (HE.out.trans hE)); (try replace HF := Lib.hid (HF.out.trans hE)); (try replace r0 := r0.ext hE); (try replace r1 := r1.ext hE); (try replace r2 := r2.ext hE); (try replace r3 := r3.ext hE); (try replace r4 := r4.ext hE); (try replace r5 := r5.ext hE); (try replace r6 := r6.ext hE); clear hE
  go_wp2_with (first | ((refine wpList_store_blk rfl 29 _ _ rfl rfl rfl zz1 (hr_info _) (by simp [hrC_size]) (hrC_one _) ?_); clear zz1; generalize (w'.alloc (.cells #[.slice none 0 0, .int .u64 0, .int .u64 0, .int .u64 0, .int .i64 0, .bool false, .bool false, .int .i64 0] 29)).setRow w'.heap.size (hrC ⟨AE, cE, bE⟩) = X at *) | (refine wpList_load_blk (by rfl) 29 _ rfl rfl h5 Tryz.underlying29 rfl (by kernel_rfl) ?_))
  generalize w'.heap.size = g7 at *
  refine (ce2 _ _ _ r1 (hTE _ HF.out)).mono ?_
  rintro r5 w' ⟨AG, cG, rfl, -, hE⟩
  (try replace h1 := h1.ext hE); (try replace h2 := h2.ext hE); (try replace h3 := h3.ext hE); (try replace h4 := h4.ext hE); (try replace h5 := h5.ext hE); (try replace h6 := h6.ext hE); (try replace h7 := h7.ext hE); (try replace h8 := h8.ext hE); (try replace h9 := h9.ext hE); (try replace hM := hM.ext hE); (try replace hN := hN.ext hE); (try replace hO := hO.ext hE); (try replace HE := Lib.hid (HE.out.trans hE)); (try replace HF := Lib.hid (HF.out.trans hE)); (try replace r0 := r0.ext hE); (try replace r1 := r1.ext hE); (try replace r2 := r2.ext hE); (try replace r3 := r3.ext hE); (try replace r4 := r4.ext hE); (try replace r5 := r5.ext hE); (try replace r6 := r6.ext hE)
  clear hE ce2
  obtain ⟨zz1, hE, h8⟩ := nh1 w' (hrC ⟨AG, cG, HG⟩); (try replace h1 := h1.ext hE); (try replace h2 := h2.ext hE); (try replace h3 := h3.ext hE); (try replace h4 := h4.ext hE); (try replace h5 := h5.ext hE); (try replace h6 := h6.ext hE); (try replace h7 := h7.ext hE); (try replace h8 := h8.ext hE); (try replace h9 := h9.ext hE); (try replace hM := hM.ext hE); (try replace hN := hN.ext hE); (try replace hO := hO.ext hE); (try replace HE := Lib.hid (HE.out.trans hE)); (try replace HF := Lib.hid (HF.out.trans hE)); (try replace r0 := r0.ext hE); (try replace r1 := r1.ext hE); (try replace r2 := r2.ext hE); (try replace r3 := r3.ext hE); (try replace r4 := r4.ext hE); (try replace r5 := r5.ext hE); (try replace r6 := r6.ext hE); clear hE
  go_wp2_with (first | ((refine wpList_store_blk rfl 29 _ _ rfl rfl rfl zz1 (hr_info _) (by simp [hrC_size]) (hrC_one _) ?_); clear zz1; generalize (w'.alloc (.cells #[.slice none 0 0, .int .u64 0, .int .u64 0, .int .u64 0, .int .i64 0, .bool false, .bool false, .int .i64 0] 29)).setRow w'.heap.size (hrC ⟨AG, cG, HG⟩) = X at *) | (refine wpList_load_blk (by rfl) 29 _ rfl rfl h2 Tryz.underlying29 rfl (by kernel_rfl) ?_) | (refine wpList_load_blk (by rfl) 32 _ rfl rfl h1 Tryz.underlying32 rfl (by kernel_rfl) ?_))
  generalize w'.heap.size = g8 at *
  clear h8
  refine (cb2 _ _ (hrH _ HE.out) (hMX _ HE.out) (hTE _ HF.out)).mono ?_
  rintro r5 w' ⟨AX, BX, cX, dX, rfl, r3, hO, hE, -⟩
  (try replace h1 := h1.ext hE); (try replace h2 := h2.ext hE); (try replace h3 := h3.ext hE); (try replace h4 := h4.ext hE); (try replace h5 := h5.ext hE); (try replace h6 := h6.ext hE); (try replace h7 := h7.ext hE); (try replace h8 := h8.ext hE); (try replace h9 := h9.ext hE); (try replace hM := hM.ext hE); (try replace hN := hN.ext hE); (try replace hO := hO.ext hE); (try replace HE := Lib.hid (HE.out.trans hE)); (try replace HF := Lib.hid (HF.out.trans hE)); (try replace r0 := r0.ext hE); (try replace r1 := r1.ext hE); (try replace r2 := r2.ext hE); (try replace r3 := r3.ext hE); (try replace r4 := r4.ext hE); (try replace r5 := r5.ext hE); (try replace r6 := r6.ext hE)
  clear hE cb2
  obtain ⟨zz1, zz2, hE, h8, h9⟩ := nh2 w' (hrC ⟨AX, cX, bH⟩) #[.int .u64 ((8192 : Nat) : Int), .slice BX 1 dX]; (try replace h1 := h1.ext hE); (try replace h2 := h2.ext hE); (try replace h3 := h3.ext hE); (try replace h4 := h4.ext hE); (try replace h5 := h5.ext hE); (try replace h6 := h6.ext hE); (try replace h7 := h7.ext hE); (try replace h8 := h8.ext hE); (try replace h9 := h9.ext hE); (try replace hM := hM.ext hE); (try replace hN := hN.ext hE); (try replace hO := hO.ext hE); (try replace HE := Lib.hid (HE.out.trans hE)); (try replace HF := Lib.hid (HF.out.trans hE)); (try replace r0 := r0.ext hE); (try replace r1 := r1.ext hE); (try replace r2 := r2.ext hE); (try replace r3 := r3.ext hE); (try replace r4 := r4.ext hE); (try replace r5 := r5.ext hE); (try replace r6 := r6.ext hE); clear hE
  obtain ⟨bd, od, rfl, hbd, hcl⟩ := hN.row.1 (by rw [bM2_len]; decide)
  obtain ⟨be, oe, rfl, hbe, hrx⟩ := r1.some (by rw [bD_len]; decide)
  have xm := (hcl 0 (by rw [bM2_len]; decide)).2
  rw [bM2_val] at xm
  have xw := rng_cell (rng_way (s := sT bD.L 0) (by rw [sT_eq]; exact hrx 0 (by rw [bD_len]; decide)) (show 2 < 4 by decide)) 0 (enC_v _)
  rw [bD_way] at xw
  simp only [Nat.zero_mul, Nat.add_zero, Nat.reduceMul] at xm xw
  have xa := h3.hr.vi
  rw [bA_vi] at xa
  have xd := h5.hr.vi
  rw [bD_vi] at xd
  have xs := h5.hr.s
  rw [bD_len] at xs
  have x6 := h6.cell 1
  simp only [List.getElem?_toArray, List.getElem?_cons_succ, List.getElem?_cons_zero] at x6
  have hcd := hN.row.2.2.1
  have hce := r1.2.2.1
  rw [bM2_len] at hcd
  rw [bD_len] at hce
  have cal := fun W r => rall14_c AE bE.L cE (by have := rt_len (right_split bE_r).1; omega) W r
  unfold MadeE at cal
  rw [bE_all] at cal
  have csm := fun W p q => rsame16_c AX (some ⟨g2, 0, none⟩) bH bH cX 1 (by rw [bH_L]; decide) (by rw [bH_L]; decide) W p q
  rw [decide_eq_true rfl] at csm
  have x7 := h7.hr.s
  clear hcl hrx hN hbd hbe hmk hzs h3 h5 h6 h7
  go_upto_region 8 with (first | (refine wpList_store_blk rfl 29 _ _ rfl rfl rfl zz1 (hr_info _) (by simp [hrC_size]) (hrC_one _) ?_) | ((refine wpList_store_blk rfl 32 _ _ rfl rfl rfl zz2 (by kernel_rfl) (by rfl) (by simp [Value.oneCell']) ?_); clear zz1 zz2; generalize (((w'.alloc (.cells #[.slice none 0 0, .int .u64 0, .int .u64 0, .int .u64 0, .int .i64 0, .bool false, .bool false, .int .i64 0] 29)).alloc (.cells #[.int .u64 0, .slice none 0 0] 32)).setRow w'.heap.size (hrC ⟨AX, cX, bH⟩)).setRow (w'.heap.size + 1) #[.int .u64 ((8192 : Nat) : Int), .slice BX 1 dX] = X at *))
  refine (cal _ r2).mono ?_
  rintro r5 w8 ⟨A9, c9, rfl, -, -, hE⟩
  clear xm xw xa xd xs x6 x7 cal r2 r1
  replace h1 := h1.ext hE
  replace h2 := h2.ext hE
  replace h8 := h8.ext hE
  replace h9 := h9.ext hE
  replace r3 := r3.ext hE
  replace hO := hO.ext hE
  replace HE := Lib.hid (HE.out.trans hE)
  replace HF := Lib.hid (HF.out.trans hE)
  clear hE
  simp only [hrC_eq] at csm
  obtain ⟨u0, u1, u2, u3, u4, u5, u6, u7⟩ := h8.hr
  obtain ⟨v0, v1, v2, v3, v4, v5, v6, v7⟩ := h2.hr
  go_wp2_with fail
  refine (csm _ r3 (hrH _ HE.out)).mono ?_
  rintro r5 w9 ⟨rfl, hE⟩
  clear u0 u1 u2 u3 u4 u5 u6 u7 v0 v1 v2 v3 v4 v5 v6 v7
  replace h1 := h1.ext hE
  replace h9 := h9.ext hE
  replace hO := hO.ext hE
  replace HE := Lib.hid (HE.out.trans hE)
  replace HF := Lib.hid (HF.out.trans hE)
  clear hE csm h8 h2 r3
  have y0 := h9.cell 0
  have y1 := h9.cell 1
  have z0 := h1.cell 0
  have z1 := h1.cell 1
  simp only [List.getElem?_toArray, List.getElem?_cons_succ, List.getElem?_cons_zero] at y0 y1 z0 z1
  have cmm := same_x hO (hMX _ HE.out) rfl
  simp only [bM_len] at cmm
  go_wp2_with fail
  refine cmm.mono ?_
  rintro r5 wt ⟨rfl, hE⟩
  replace HF := Lib.hid (HF.out.trans hE)
  clear hE h9 h1 y0 y1 z0 z1 cmm
  go_wp2
  go_ret
  exact ⟨rfl, HF.out⟩
end Go.Proofs.YtlhoedpencmikaaGreatDoor
