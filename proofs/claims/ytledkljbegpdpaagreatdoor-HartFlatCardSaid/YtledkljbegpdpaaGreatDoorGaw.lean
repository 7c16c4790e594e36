/- Layer 16: what awake's accesses come to, reckoned. No program. -/
import Derived.Test.YtledkljbegpdpaaGreatDoorLaw16b
namespace Go.Proofs.YtledkljbegpdpaaGreatDoor
set_option maxRecDepth 100000
set_option linter.unusedVariables false

def aM : List (Nat × Nat) := [(0, 7), (512, 19)]
def aM2 : List (Nat × Nat) := [(0, 9), (512, 19)]
def aM3 : List (Nat × Nat) := [(0, 7), (512, 83)]
def aOff : Hr := ⟨[], ⟨0, 0, 0⟩, 1, false, false, 0⟩
def aOn : Hr := ⟨List.replicate 1 s0, ⟨8, 1, 1⟩, 0, false, false, -1⟩
def aHe : Hr := accH 8192 aM aOn 1 0 8
theorem aM_len : aM.length = 2 := rfl
theorem aM_is : RL 1024 aM := by
  refine ⟨by simp [aM], fun c hc => ?_⟩
  simp [aM] at hc
  rcases hc with rfl | rfl <;> decide
theorem aA : accR 8192 aM aOff 1 0 8 = ⟨7, ⟨false, 0, 0⟩⟩ := by decide +kernel
theorem aB : accR 8192 aM aOff 1 1 2 = ⟨0, ⟨true, 4, 1⟩⟩ := by decide +kernel
theorem aC : accR 8192 aM aOff 0 8192 4 = ⟨0, ⟨true, 1, 8192⟩⟩ := by decide +kernel
theorem aD : accR 8192 aM aOff 2 0 1 = ⟨0, ⟨false, 0, 0⟩⟩ := by decide +kernel
theorem aD2 : accM 8192 aM aOff 2 0 1 9 = aM2 := by decide +kernel
theorem aE : accR 8192 aM aOn 1 0 8 = ⟨7, ⟨false, 0, 0⟩⟩ := by decide +kernel
theorem aE2 : accM 8192 aM aOn 1 0 8 0 = aM3 := by decide +kernel
theorem aF : accR 8192 aM aOn 2 0 8 = ⟨0, ⟨true, 15, 0⟩⟩ := by decide +kernel
theorem aG : accR 8192 aM aOn 1 274877906944 8 = ⟨0, ⟨true, 13, 274877906944⟩⟩ := by decide +kernel
theorem aAll : (allT aHe.L).length = 1 := by decide +kernel
theorem aAg1 : agH 8192 aM3 aHe = true := by decide +kernel
theorem aAg2 : agH 8192 aM aHe = false := by decide +kernel
theorem aW : wordL aM3 (4096 / 8) = 83 := by decide +kernel
theorem aOffR : rightH aOff = true := by decide +kernel
theorem aOnR : rightH aOn = true := by decide +kernel
theorem aHe_eq : accH 8192 aM aOn 1 0 8 = aHe := by unfold aHe; rfl
theorem aM2_val : vlN aM2 0 = 9 := by decide +kernel
theorem aM2_len : aM2.length = 2 := rfl
theorem aWay : wayH aOn 2 = ⟨2, 0, false, false⟩ := by decide +kernel
theorem aHeR : rightH aHe = true := by decide +kernel
theorem aPp : aHe.sp.pp < 17592186044416 := by decide +kernel
attribute [irreducible] aM aM2 aM3 aOff aOn aHe
end Go.Proofs.YtledkljbegpdpaaGreatDoor
/- Layer 16: awake answers true. -/
namespace Go.Proofs.YtledkljbegpdpaaGreatDoor
open Go.ChangeShapes Go.WideShapes Go.ChangeAt Go.RowKit
set_option linter.unusedVariables false
set_option linter.unusedSimpArgs false
set_option maxRecDepth 100000

theorem off_build : Tryz.prog.built 29 [(2, .int .i64 1)] = some (hrC ⟨none, 0, aOff⟩) := by rw [hrC_eq]; unfold aOff; kernel_rfl
theorem onC (A : Option Addr) : hrC ⟨A, 1, aOn⟩ = #[.slice A 1 1, .int .u64 8, .int .u64 1, .int .u64 1, .int .i64 0, .bool false, .bool false, .int .i64 (-1)] := by rw [hrC_eq]; unfold aOn; rfl
theorem aOffOk : aOff.ok := by
  unfold aOff
  exact ⟨by unfold Sp.ok; simp, by decide, by decide, fun i hi => absurd hi (by simp)⟩
theorem aOnOk : aOn.ok := by
  have hr := (right_split aOnR).1
  unfold aOn at hr ⊢
  exact ⟨by unfold Sp.ok; simp, by decide, by decide, fun i hi => rt_ok hr hi⟩
theorem rs_lit (v : Nat) (b : Bool) (c : Int) (a : Nat) : rsC ⟨v, ⟨b, c, a⟩⟩ = #[.int .u64 (v : Int), .bool b, .int .i64 c, .int .u64 (a : Int)] := by rw [rsC_def, ftC_def]; rfl
theorem Blk.c4 {w : World} {g : Nat} {t : TypeId} {c0 c1 c2 c3 : Value} (h : Blk w g t #[c0, c1, c2, c3]) : w.cell? ⟨g, 0, none⟩ = some c0 ∧ w.cell? ⟨g, 1, none⟩ = some c1 ∧ w.cell? ⟨g, 2, none⟩ = some c2 ∧ w.cell? ⟨g, 3, none⟩ = some c3 := ⟨h.cell 0, h.cell 1, h.cell 2, h.cell 3⟩
theorem aHeOk : aHe.ok := by
  unfold aHe
  exact acc_ok (k := 1) aOnR aOnOk aM_is (by decide) (by decide) 8
theorem aOffRow (W : World) : RowV KS W none aOff.L 0 := by unfold aOff; exact RowV.nil W
theorem aOn_L : aOn.L = List.replicate 1 s0 := by unfold aOn; rfl
theorem aM_row (w : World) : RowL (w.alloc (.cells #[.int .u64 0, .int .u64 7, .int .u64 512, .int .u64 19] 58)) (some ⟨w.heap.size, 0, none⟩) aM 2 := by
  unfold aM
  refine ⟨fun _ => ⟨w.heap.size, 0, rfl, by simp, fun i hi => ?_⟩, fun e => (by cases e), by decide, by decide⟩
  have hi' : i < 2 := hi
  rw [World.cell?_alloc_at _ _ _ _ rfl, World.cell?_alloc_at _ _ _ _ rfl]
  match i, hi' with
  | 0, _ => exact ⟨by simp [atN], by simp [vlN]⟩
  | 1, _ => exact ⟨by simp [atN], by simp [vlN]⟩
attribute [local irreducible] World.setRow World.alloc Blk
set_option maxHeartbeats 16000000 in
theorem awake16_c : Awk := by
  intro w hT
  obtain ⟨W0, hW⟩ : ∃ W0, W0 = (w.alloc (.cells #[.int .u64 0, .int .u64 7, .int .u64 512, .int .u64 19] 58)).alloc (.cells #[.int .u64 8192, .slice (some ⟨w.heap.size, 0, none⟩) 2 2] 32) := ⟨_, rfl⟩
  have HE : Hid (Ext w W0) := Lib.hid (by rw [hW]; exact ((Ext.refl w).alloc _).alloc _)
  have hM : Mem W0 8192 (some ⟨w.heap.size, 0, none⟩) aM 2 := ⟨by rw [hW]; exact (aM_row w).ext ((Ext.refl _).alloc _), aM_is, by decide, by rw [aM_len]; decide⟩
  have h1 : Blk W0 (w.heap.size + 1) 32 #[.int .u64 8192, .slice (some ⟨w.heap.size, 0, none⟩) 2 2] := by rw [hW]; exact blk_at (by simp)
  have hTE : ∀ W : World, Ext w W → Layh W := fun W e => hT.ext e
  have cA := fun W m t => acc16_c none aOff 0 8192 (some ⟨w.heap.size, 0, none⟩) aM 2 1 0 8 0 aOffR aOffOk (by decide) (by decide) (.inr (.inr (.inr rfl))) (by decide) W (aOffRow W) m (by rw [aM_len]; decide) t
  have cB := fun W m t => acc16_c none aOff 0 8192 (some ⟨w.heap.size, 0, none⟩) aM 2 1 1 2 0 aOffR aOffOk (by decide) (by decide) (.inr (.inl rfl)) (by decide) W (aOffRow W) m (by rw [aM_len]; decide) t
  have cC := fun W m t => acc16_c none aOff 0 8192 (some ⟨w.heap.size, 0, none⟩) aM 2 0 8192 4 0 aOffR aOffOk (by decide) (by decide) (.inr (.inr (.inl rfl))) (by decide) W (aOffRow W) m (by rw [aM_len]; decide) t
  have cD := fun W m t => acc16_c none aOff 0 8192 (some ⟨w.heap.size, 0, none⟩) aM 2 2 0 1 9 aOffR aOffOk (by decide) (by decide) (.inl rfl) (by decide) W (aOffRow W) m (by rw [aM_len]; decide) t
  have cE := fun B8 W r m t => acc16_c B8 aOn 1 8192 (some ⟨w.heap.size, 0, none⟩) aM 2 1 0 8 0 aOnR aOnOk (by decide) (by decide) (.inr (.inr (.inr rfl))) (by decide) W r m (by rw [aM_len]; decide) t
  have cF := fun B8 W r m t => acc16_c B8 aOn 1 8192 (some ⟨w.heap.size, 0, none⟩) aM 2 2 0 8 0 aOnR aOnOk (by decide) (by decide) (.inr (.inr (.inr rfl))) (by decide) W r m (by rw [aM_len]; decide) t
  have cG := fun B8 W r m t => acc16_c B8 aOn 1 8192 (some ⟨w.heap.size, 0, none⟩) aM 2 1 274877906944 8 0 aOnR aOnOk (by decide) (by decide) (.inr (.inr (.inr rfl))) (by decide) W r m (by rw [aM_len]; decide) t
  unfold AccT at cA cB cC cD cE cF cG
  simp only [aA, aM_len] at cA
  generalize accH 8192 aM aOff 1 0 8 = HA at cA
  generalize accM 8192 aM aOff 1 0 8 0 = MA at cA
  simp only [aB, aM_len] at cB
  generalize accH 8192 aM aOff 1 1 2 = HB at cB
  generalize accM 8192 aM aOff 1 1 2 0 = MB at cB
  simp only [aC, aM_len] at cC
  generalize accH 8192 aM aOff 0 8192 4 = HC at cC
  generalize accM 8192 aM aOff 0 8192 4 0 = MC at cC
  simp only [aD, aM_len, aD2] at cD
  generalize accH 8192 aM aOff 2 0 1 = HD at cD
  simp only [aE, aM_len, aE2, aHe_eq] at cE
  simp only [aF, aM_len] at cF
  generalize accH 8192 aM aOn 2 0 8 = HF at cF
  generalize accM 8192 aM aOn 2 0 8 0 = MF at cF
  simp only [aG, aM_len] at cG
  generalize accH 8192 aM aOn 1 274877906944 8 = HG at cG
  generalize accM 8192 aM aOn 1 274877906944 8 0 = MG at cG
  have hmk : ∀ W : World, (Instr.makeSlice 22 (.int .i64 1) (.int .i64 1)).run Tryz.prog W = .ok (.slice (some ⟨W.heap.size, 0, none⟩) 1 1) (W.alloc (.cells (zsC 1) 55)) := make_zs 1 (by decide)
  have hzs := fun W => zs_row 1 (by decide) W
  generalize zsC 1 = zs at *
  have HW := Lib.hid hW
  clear hW
  go_enter Tryz.func8, Tryz.ntmps8
  go_upto_region 2 with fail
  rw [← HW.out]
  clear HW
  have hE := (Ext.refl W0).alloc (.cells (hrC ⟨none, 0, aOff⟩) 29)
  have h2n := Blk.new W0 29 (hrC ⟨none, 0, aOff⟩)
  (try replace hb := hb.ext hE); (try replace hc := hc.ext hE); (try replace h1 := h1.ext hE); (try replace h2 := h2.ext hE); (try replace h3 := h3.ext hE); (try replace h4 := h4.ext hE); (try replace h5 := h5.ext hE); (try replace h6 := h6.ext hE); (try replace h7 := h7.ext hE); (try replace h8 := h8.ext hE); (try replace k1 := k1.ext hE); (try replace k2 := k2.ext hE); (try replace k3 := k3.ext hE); (try replace k4 := k4.ext hE); (try replace k5 := k5.ext hE); (try replace hM := hM.ext hE); (try replace hN := hN.ext hE); (try replace hO := hO.ext hE); (try replace HE := Lib.hid (HE.out.trans hE)); (try replace HF := Lib.hid (HF.out.trans hE)); (try replace r0 := r0.ext hE); (try replace r1 := r1.ext hE); (try replace r2 := r2.ext hE); (try replace r3 := r3.ext hE); (try replace r4 := r4.ext hE); (try replace r5 := r5.ext hE); (try replace r6 := r6.ext hE)
  clear hE
  have h2 := h2n
  clear h2n
  go_upto_region 3 with (first | (refine wpList_build_as (by rfl) rfl (off_build) ?_) | (refine wpList_store_new rfl 29 _ _ rfl (hrC _) _ _ rfl rfl (hr_info _) (by simp [hrC_size]) (hrC_one _) ?_))
  (try simp only [Act.put, List.setIfInBounds_toArray, List.set_cons_zero, List.set_cons_succ])
  generalize W0.heap.size = g2 at *
  generalize W0.alloc (.cells (hrC ⟨none, 0, aOff⟩) 29) = W2 at *
  go_wp2_with (first | (refine wpList_load_blk (by rfl) 29 _ rfl rfl h2 Tryz.underlying29 rfl (by kernel_rfl) ?_) | (refine wpList_load_blk (by rfl) 32 _ rfl rfl h1 Tryz.underlying32 rfl (by kernel_rfl) ?_))
  refine (cA _ hM (hTE _ HE.out)).mono ?_
  rintro r5 w' ⟨AA, BA, dA, eA, rfl, -, -, hE⟩
  (try replace hb := hb.ext hE); (try replace hc := hc.ext hE); (try replace h1 := h1.ext hE); (try replace h2 := h2.ext hE); (try replace h3 := h3.ext hE); (try replace h4 := h4.ext hE); (try replace h5 := h5.ext hE); (try replace h6 := h6.ext hE); (try replace h7 := h7.ext hE); (try replace h8 := h8.ext hE); (try replace k1 := k1.ext hE); (try replace k2 := k2.ext hE); (try replace k3 := k3.ext hE); (try replace k4 := k4.ext hE); (try replace k5 := k5.ext hE); (try replace hM := hM.ext hE); (try replace hN := hN.ext hE); (try replace hO := hO.ext hE); (try replace HE := Lib.hid (HE.out.trans hE)); (try replace HF := Lib.hid (HF.out.trans hE)); (try replace r0 := r0.ext hE); (try replace r1 := r1.ext hE); (try replace r2 := r2.ext hE); (try replace r3 := r3.ext hE); (try replace r4 := r4.ext hE); (try replace r5 := r5.ext hE); (try replace r6 := r6.ext hE)
  clear hE cA
  obtain ⟨zz1, zz2, zz3, hE, hb, hc, h3⟩ := nh3 w' (hrC ⟨AA, dA, HA⟩) #[.int .u64 ((8192 : Nat) : Int), .slice BA MA.length eA] (rsC ⟨7, ⟨false, 0, 0⟩⟩); (try replace hb := hb.ext hE); (try replace hc := hc.ext hE); (try replace h1 := h1.ext hE); (try replace h2 := h2.ext hE); (try replace h3 := h3.ext hE); (try replace h4 := h4.ext hE); (try replace h5 := h5.ext hE); (try replace h6 := h6.ext hE); (try replace h7 := h7.ext hE); (try replace h8 := h8.ext hE); (try replace k1 := k1.ext hE); (try replace k2 := k2.ext hE); (try replace k3 := k3.ext hE); (try replace k4 := k4.ext hE); (try replace k5 := k5.ext hE); (try replace hM := hM.ext hE); (try replace hN := hN.ext hE); (try replace hO := hO.ext hE); (try replace HE := Lib.hid (HE.out.trans hE)); (try replace HF := Lib.hid (HF.out.trans hE)); (try replace r0 := r0.ext hE); (try replace r1 := r1.ext hE); (try replace r2 := r2.ext hE); (try replace r3 := r3.ext hE); (try replace r4 := r4.ext hE); (try replace r5 := r5.ext hE); (try replace r6 := r6.ext hE); clear hE
  go_wp2_with (first | (first | (refine wpList_store_blk rfl 29 _ _ rfl rfl rfl zz1 (hr_info _) (by simp [hrC_size]) (hrC_one _) ?_) | (refine wpList_store_blk rfl 32 _ _ rfl rfl rfl zz2 (by kernel_rfl) (by rfl) (by simp [Value.oneCell']) ?_) | ((refine wpList_store_blk rfl 39 _ _ rfl rfl rfl zz3 (rs_info _) (by simp [rsC_size]) (rsC_one _) ?_); clear zz1 zz2 zz3; generalize (((((w'.alloc (.cells #[.slice none 0 0, .int .u64 0, .int .u64 0, .int .u64 0, .int .i64 0, .bool false, .bool false, .int .i64 0] 29)).alloc (.cells #[.int .u64 0, .slice none 0 0] 32)).alloc (.cells #[.int .u64 0, .bool false, .int .i64 0, .int .u64 0] 39)).setRow w'.heap.size (hrC ⟨AA, dA, HA⟩)).setRow (w'.heap.size + 1) #[.int .u64 ((8192 : Nat) : Int), .slice BA MA.length eA]).setRow (w'.heap.size + 1 + 1) (rsC ⟨7, ⟨false, 0, 0⟩⟩) = X at *)) | (refine wpList_load_blk (by rfl) 29 _ rfl rfl h2 Tryz.underlying29 rfl (by kernel_rfl) ?_) | (refine wpList_load_blk (by rfl) 32 _ rfl rfl h1 Tryz.underlying32 rfl (by kernel_rfl) ?_))
  clear hb hc
  generalize w'.heap.size = ggA at *
  refine (cB _ hM (hTE _ HE.out)).mono ?_
  rintro r5 w' ⟨AB, BB, dB, eB, rfl, -, -, hE⟩
  (try replace hb := hb.ext hE); (try replace hc := hc.ext hE); (try replace h1 := h1.ext hE); (try replace h2 := h2.ext hE); (try replace h3 := h3.ext hE); (try replace h4 := h4.ext hE); (try replace h5 := h5.ext hE); (try replace h6 := h6.ext hE); (try replace h7 := h7.ext hE); (try replace h8 := h8.ext hE); (try replace k1 := k1.ext hE); (try replace k2 := k2.ext hE); (try replace k3 := k3.ext hE); (try replace k4 := k4.ext hE); (try replace k5 := k5.ext hE); (try replace hM := hM.ext hE); (try replace hN := hN.ext hE); (try replace hO := hO.ext hE); (try replace HE := Lib.hid (HE.out.trans hE)); (try replace HF := Lib.hid (HF.out.trans hE)); (try replace r0 := r0.ext hE); (try replace r1 := r1.ext hE); (try replace r2 := r2.ext hE); (try replace r3 := r3.ext hE); (try replace r4 := r4.ext hE); (try replace r5 := r5.ext hE); (try replace r6 := r6.ext hE)
  clear hE cB
  obtain ⟨zz1, zz2, zz3, hE, hb, hc, h4⟩ := nh3 w' (hrC ⟨AB, dB, HB⟩) #[.int .u64 ((8192 : Nat) : Int), .slice BB MB.length eB] (rsC ⟨0, ⟨true, 4, 1⟩⟩); (try replace hb := hb.ext hE); (try replace hc := hc.ext hE); (try replace h1 := h1.ext hE); (try replace h2 := h2.ext hE); (try replace h3 := h3.ext hE); (try replace h4 := h4.ext hE); (try replace h5 := h5.ext hE); (try replace h6 := h6.ext hE); (try replace h7 := h7.ext hE); (try replace h8 := h8.ext hE); (try replace k1 := k1.ext hE); (try replace k2 := k2.ext hE); (try replace k3 := k3.ext hE); (try replace k4 := k4.ext hE); (try replace k5 := k5.ext hE); (try replace hM := hM.ext hE); (try replace hN := hN.ext hE); (try replace hO := hO.ext hE); (try replace HE := Lib.hid (HE.out.trans hE)); (try replace HF := Lib.hid (HF.out.trans hE)); (try replace r0 := r0.ext hE); (try replace r1 := r1.ext hE); (try replace r2 := r2.ext hE); (try replace r3 := r3.ext hE); (try replace r4 := r4.ext hE); (try replace r5 := r5.ext hE); (try replace r6 := r6.ext hE); clear hE
  go_wp2_with (first | (first | (refine wpList_store_blk rfl 29 _ _ rfl rfl rfl zz1 (hr_info _) (by simp [hrC_size]) (hrC_one _) ?_) | (refine wpList_store_blk rfl 32 _ _ rfl rfl rfl zz2 (by kernel_rfl) (by rfl) (by simp [Value.oneCell']) ?_) | ((refine wpList_store_blk rfl 39 _ _ rfl rfl rfl zz3 (rs_info _) (by simp [rsC_size]) (rsC_one _) ?_); clear zz1 zz2 zz3; generalize (((((w'.alloc (.cells #[.slice none 0 0, .int .u64 0, .int .u64 0, .int .u64 0, .int .i64 0, .bool false, .bool false, .int .i64 0] 29)).alloc (.cells #[.int .u64 0, .slice none 0 0] 32)).alloc (.cells #[.int .u64 0, .bool false, .int .i64 0, .int .u64 0] 39)).setRow w'.heap.size (hrC ⟨AB, dB, HB⟩)).setRow (w'.heap.size + 1) #[.int .u64 ((8192 : Nat) : Int), .slice BB MB.length eB]).setRow (w'.heap.size + 1 + 1) (rsC ⟨0, ⟨true, 4, 1⟩⟩) = X at *)) | (refine wpList_load_blk (by rfl) 29 _ rfl rfl h2 Tryz.underlying29 rfl (by kernel_rfl) ?_) | (refine wpList_load_blk (by rfl) 32 _ rfl rfl h1 Tryz.underlying32 rfl (by kernel_rfl) ?_))
  clear hb hc
  generalize w'.heap.size = ggB at *
  refine (cC _ hM (hTE _ HE.out)).mono ?_
  rintro r5 w' ⟨AC, BC, dC, eC, rfl, -, -, hE⟩
  (try replace hb := hb.ext hE); (try replace hc := hc.ext hE); (try replace h1 := h1.ext hE); (try replace h2 := h2.ext hE); (try replace h3 := h3.ext hE); (try replace h4 := h4.ext hE); (try replace h5 := h5.ext hE); (try replace h6 := h6.ext hE); (try replace h7 := h7.ext hE); (try replace h8 := h8.ext hE); (try replace k1 := k1.ext hE); (try replace k2 := k2.ext hE); (try replace k3 := k3.ext hE); (try replace k4 := k4.ext hE); (try replace k5 := k5.ext hE); (try replace hM := hM.ext hE); (try replace hN := hN.ext hE); (try replace hO := hO.ext hE); (try replace HE := Lib.hid (HE.out.trans hE)); (try replace HF := Lib.hid (HF.out.trans hE)); (try replace r0 := r0.ext hE); (try replace r1 := r1.ext hE); (try replace r2 := r2.ext hE); (try replace r3 := r3.ext hE); (try replace r4 := r4.ext hE); (try replace r5 := r5.ext hE); (try replace r6 := r6.ext hE)
  clear hE cC
  obtain ⟨zz1, zz2, zz3, hE, hb, hc, h5⟩ := nh3 w' (hrC ⟨AC, dC, HC⟩) #[.int .u64 ((8192 : Nat) : Int), .slice BC MC.length eC] (rsC ⟨0, ⟨true, 1, 8192⟩⟩); (try replace hb := hb.ext hE); (try replace hc := hc.ext hE); (try replace h1 := h1.ext hE); (try replace h2 := h2.ext hE); (try replace h3 := h3.ext hE); (try replace h4 := h4.ext hE); (try replace h5 := h5.ext hE); (try replace h6 := h6.ext hE); (try replace h7 := h7.ext hE); (try replace h8 := h8.ext hE); (try replace k1 := k1.ext hE); (try replace k2 := k2.ext hE); (try replace k3 := k3.ext hE); (try replace k4 := k4.ext hE); (try replace k5 := k5.ext hE); (try replace hM := hM.ext hE); (try replace hN := hN.ext hE); (try replace hO := hO.ext hE); (try replace HE := Lib.hid (HE.out.trans hE)); (try replace HF := Lib.hid (HF.out.trans hE)); (try replace r0 := r0.ext hE); (try replace r1 := r1.ext hE); (try replace r2 := r2.ext hE); (try replace r3 := r3.ext hE); (try replace r4 := r4.ext hE); (try replace r5 := r5.ext hE); (try replace r6 := r6.ext hE); clear hE
  go_wp2_with (first | (first | (refine wpList_store_blk rfl 29 _ _ rfl rfl rfl zz1 (hr_info _) (by simp [hrC_size]) (hrC_one _) ?_) | (refine wpList_store_blk rfl 32 _ _ rfl rfl rfl zz2 (by kernel_rfl) (by rfl) (by simp [Value.oneCell']) ?_) | ((refine wpList_store_blk rfl 39 _ _ rfl rfl rfl zz3 (rs_info _) (by simp [rsC_size]) (rsC_one _) ?_); clear zz1 zz2 zz3; generalize (((((w'.alloc (.cells #[.slice none 0 0, .int .u64 0, .int .u64 0, .int .u64 0, .int .i64 0, .bool false, .bool false, .int .i64 0] 29)).alloc (.cells #[.int .u64 0, .slice none 0 0] 32)).alloc (.cells #[.int .u64 0, .bool false, .int .i64 0, .int .u64 0] 39)).setRow w'.heap.size (hrC ⟨AC, dC, HC⟩)).setRow (w'.heap.size + 1) #[.int .u64 ((8192 : Nat) : Int), .slice BC MC.length eC]).setRow (w'.heap.size + 1 + 1) (rsC ⟨0, ⟨true, 1, 8192⟩⟩) = X at *)) | (refine wpList_load_blk (by rfl) 29 _ rfl rfl h2 Tryz.underlying29 rfl (by kernel_rfl) ?_) | (refine wpList_load_blk (by rfl) 32 _ rfl rfl h1 Tryz.underlying32 rfl (by kernel_rfl) ?_))
  clear hb hc
  generalize w'.heap.size = ggC at *
  refine (cD _ hM (hTE _ HE.out)).mono ?_
  rintro r5 w' ⟨AD, BD, dD, eD, rfl, -, hN, hE⟩
  (try replace hb := hb.ext hE); (try replace hc := hc.ext hE); (try replace h1 := h1.ext hE); (try replace h2 := h2.ext hE); (try replace h3 := h3.ext hE); (try replace h4 := h4.ext hE); (try replace h5 := h5.ext hE); (try replace h6 := h6.ext hE); (try replace h7 := h7.ext hE); (try replace h8 := h8.ext hE); (try replace k1 := k1.ext hE); (try replace k2 := k2.ext hE); (try replace k3 := k3.ext hE); (try replace k4 := k4.ext hE); (try replace k5 := k5.ext hE); (try replace hM := hM.ext hE); (try replace hN := hN.ext hE); (try replace hO := hO.ext hE); (try replace HE := Lib.hid (HE.out.trans hE)); (try replace HF := Lib.hid (HF.out.trans hE)); (try replace r0 := r0.ext hE); (try replace r1 := r1.ext hE); (try replace r2 := r2.ext hE); (try replace r3 := r3.ext hE); (try replace r4 := r4.ext hE); (try replace r5 := r5.ext hE); (try replace r6 := r6.ext hE)
  clear hE cD
  obtain ⟨zz1, zz2, zz3, hE, hb, h7, h6⟩ := nh3 w' (hrC ⟨AD, dD, HD⟩) #[.int .u64 ((8192 : Nat) : Int), .slice BD aM2.length eD] (rsC ⟨0, ⟨false, 0, 0⟩⟩); (try replace hb := hb.ext hE); (try replace hc := hc.ext hE); (try replace h1 := h1.ext hE); (try replace h2 := h2.ext hE); (try replace h3 := h3.ext hE); (try replace h4 := h4.ext hE); (try replace h5 := h5.ext hE); (try replace h6 := h6.ext hE); (try replace h7 := h7.ext hE); (try replace h8 := h8.ext hE); (try replace k1 := k1.ext hE); (try replace k2 := k2.ext hE); (try replace k3 := k3.ext hE); (try replace k4 := k4.ext hE); (try replace k5 := k5.ext hE); (try replace hM := hM.ext hE); (try replace hN := hN.ext hE); (try replace hO := hO.ext hE); (try replace HE := Lib.hid (HE.out.trans hE)); (try replace HF := Lib.hid (HF.out.trans hE)); (try replace r0 := r0.ext hE); (try replace r1 := r1.ext hE); (try replace r2 := r2.ext hE); (try replace r3 := r3.ext hE); (try replace r4 := r4.ext hE); (try replace r5 := r5.ext hE); (try replace r6 := r6.ext hE); clear hE
  go_upto_region 7 with (first | (refine wpList_store_blk rfl 29 _ _ rfl rfl rfl zz1 (hr_info _) (by simp [hrC_size]) (hrC_one _) ?_) | (refine wpList_store_blk rfl 32 _ _ rfl rfl rfl zz2 (by kernel_rfl) (by rfl) (by simp [Value.oneCell']) ?_) | ((refine wpList_store_blk rfl 39 _ _ rfl rfl rfl zz3 (rs_info _) (by simp [rsC_size]) (rsC_one _) ?_); clear zz1 zz2 zz3; generalize (((((w'.alloc (.cells #[.slice none 0 0, .int .u64 0, .int .u64 0, .int .u64 0, .int .i64 0, .bool false, .bool false, .int .i64 0] 29)).alloc (.cells #[.int .u64 0, .slice none 0 0] 32)).alloc (.cells #[.int .u64 0, .bool false, .int .i64 0, .int .u64 0] 39)).setRow w'.heap.size (hrC ⟨AD, dD, HD⟩)).setRow (w'.heap.size + 1) #[.int .u64 ((8192 : Nat) : Int), .slice BD aM2.length eD]).setRow (w'.heap.size + 1 + 1) (rsC ⟨0, ⟨false, 0, 0⟩⟩) = X at *))
  (try simp only [Act.put, List.setIfInBounds_toArray, List.set_cons_zero, List.set_cons_succ])
  clear hb
  have r1 : RowV KS (X.alloc (.cells zs 55)) (some ⟨X.heap.size, 0, none⟩) aOn.L 1 := by rw [aOn_L]; exact hzs X
  have hE := (Ext.refl X).alloc (.cells zs 55)
  have h1k := h1
  (try replace hb := hb.ext hE); (try replace hc := hc.ext hE); (try replace h1 := h1.ext hE); (try replace h2 := h2.ext hE); (try replace h3 := h3.ext hE); (try replace h4 := h4.ext hE); (try replace h5 := h5.ext hE); (try replace h6 := h6.ext hE); (try replace h7 := h7.ext hE); (try replace h8 := h8.ext hE); (try replace k1 := k1.ext hE); (try replace k2 := k2.ext hE); (try replace k3 := k3.ext hE); (try replace k4 := k4.ext hE); (try replace k5 := k5.ext hE); (try replace hM := hM.ext hE); (try replace hN := hN.ext hE); (try replace hO := hO.ext hE); (try replace HE := Lib.hid (HE.out.trans hE)); (try replace HF := Lib.hid (HF.out.trans hE)); (try replace r0 := r0.ext hE); (try replace r1 := r1.ext hE); (try replace r2 := r2.ext hE); (try replace r3 := r3.ext hE); (try replace r4 := r4.ext hE); (try replace r5 := r5.ext hE); (try replace r6 := r6.ext hE)
  clear hE h1k
  have hE := (Ext.refl (X.alloc (.cells zs 55))).alloc (.cells #[.slice (some ⟨X.heap.size, 0, none⟩) 1 1, .int .u64 8, .int .u64 1, .int .u64 1, .int .i64 0, .bool false, .bool false, .int .i64 (-1)] 29)
  have h8n : Blk ((X.alloc (.cells zs 55)).alloc (.cells #[.slice (some ⟨X.heap.size, 0, none⟩) 1 1, .int .u64 8, .int .u64 1, .int .u64 1, .int .i64 0, .bool false, .bool false, .int .i64 (-1)] 29)) (X.heap.size + 1) 29 (hrC ⟨some ⟨X.heap.size, 0, none⟩, 1, aOn⟩) := by
    have q := Blk.new (X.alloc (.cells zs 55)) 29 #[.slice (some ⟨X.heap.size, 0, none⟩) 1 1, .int .u64 8, .int .u64 1, .int .u64 1, .int .i64 0, .bool false, .bool false, .int .i64 (-1)]
    rw [World.size_alloc] at q
    rw [onC]
    exact q
  (try replace hb := hb.ext hE); (try replace hc := hc.ext hE); (try replace h1 := h1.ext hE); (try replace h2 := h2.ext hE); (try replace h3 := h3.ext hE); (try replace h4 := h4.ext hE); (try replace h5 := h5.ext hE); (try replace h6 := h6.ext hE); (try replace h7 := h7.ext hE); (try replace h8 := h8.ext hE); (try replace k1 := k1.ext hE); (try replace k2 := k2.ext hE); (try replace k3 := k3.ext hE); (try replace k4 := k4.ext hE); (try replace k5 := k5.ext hE); (try replace hM := hM.ext hE); (try replace hN := hN.ext hE); (try replace hO := hO.ext hE); (try replace HE := Lib.hid (HE.out.trans hE)); (try replace HF := Lib.hid (HF.out.trans hE)); (try replace r0 := r0.ext hE); (try replace r1 := r1.ext hE); (try replace r2 := r2.ext hE); (try replace r3 := r3.ext hE); (try replace r4 := r4.ext hE); (try replace r5 := r5.ext hE); (try replace r6 := r6.ext hE)
  clear hE
  have h8 := h8n
  clear h8n
  go_upto_region 8 with fail
  (try simp only [Act.put, List.setIfInBounds_toArray, List.set_cons_zero, List.set_cons_succ])
  generalize hg8 : X.heap.size = g8 at *
  clear hg8
  generalize (X.alloc (.cells zs 55)).alloc (.cells #[.slice (some ⟨g8, 0, none⟩) 1 1, .int .u64 8, .int .u64 1, .int .u64 1, .int .i64 0, .bool false, .bool false, .int .i64 (-1)] 29) = X8 at *
  go_wp2_with (first | (refine wpList_load_blk (by rfl) 29 _ rfl rfl h8 Tryz.underlying29 rfl (by kernel_rfl) ?_) | (refine wpList_load_blk (by rfl) 32 _ rfl rfl h1 Tryz.underlying32 rfl (by kernel_rfl) ?_))
  generalize w'.heap.size = ggD at *
  refine (cE _ _ r1 hM (hTE _ HE.out)).mono ?_
  rintro r5 w' ⟨AE, BE, dE, eE, rfl, r2, hO, hE⟩
  (try replace hb := hb.ext hE); (try replace hc := hc.ext hE); (try replace h1 := h1.ext hE); (try replace h2 := h2.ext hE); (try replace h3 := h3.ext hE); (try replace h4 := h4.ext hE); (try replace h5 := h5.ext hE); (try replace h6 := h6.ext hE); (try replace h7 := h7.ext hE); (try replace h8 := h8.ext hE); (try replace k1 := k1.ext hE); (try replace k2 := k2.ext hE); (try replace k3 := k3.ext hE); (try replace k4 := k4.ext hE); (try replace k5 := k5.ext hE); (try replace hM := hM.ext hE); (try replace hN := hN.ext hE); (try replace hO := hO.ext hE); (try replace HE := Lib.hid (HE.out.trans hE)); (try replace HF := Lib.hid (HF.out.trans hE)); (try replace r0 := r0.ext hE); (try replace r1 := r1.ext hE); (try replace r2 := r2.ext hE); (try replace r3 := r3.ext hE); (try replace r4 := r4.ext hE); (try replace r5 := r5.ext hE); (try replace r6 := r6.ext hE)
  clear hE cE
  obtain ⟨zz1, zz2, zz3, hE, k1, k2, k3⟩ := nh3 w' (hrC ⟨AE, dE, aHe⟩) #[.int .u64 ((8192 : Nat) : Int), .slice BE aM3.length eE] (rsC ⟨7, ⟨false, 0, 0⟩⟩); (try replace hb := hb.ext hE); (try replace hc := hc.ext hE); (try replace h1 := h1.ext hE); (try replace h2 := h2.ext hE); (try replace h3 := h3.ext hE); (try replace h4 := h4.ext hE); (try replace h5 := h5.ext hE); (try replace h6 := h6.ext hE); (try replace h7 := h7.ext hE); (try replace h8 := h8.ext hE); (try replace k1 := k1.ext hE); (try replace k2 := k2.ext hE); (try replace k3 := k3.ext hE); (try replace k4 := k4.ext hE); (try replace k5 := k5.ext hE); (try replace hM := hM.ext hE); (try replace hN := hN.ext hE); (try replace hO := hO.ext hE); (try replace HE := Lib.hid (HE.out.trans hE)); (try replace HF := Lib.hid (HF.out.trans hE)); (try replace r0 := r0.ext hE); (try replace r1 := r1.ext hE); (try replace r2 := r2.ext hE); (try replace r3 := r3.ext hE); (try replace r4 := r4.ext hE); (try replace r5 := r5.ext hE); (try replace r6 := r6.ext hE); clear hE
  go_wp2_with (first | (first | (refine wpList_store_blk rfl 29 _ _ rfl rfl rfl zz1 (hr_info _) (by simp [hrC_size]) (hrC_one _) ?_) | (refine wpList_store_blk rfl 32 _ _ rfl rfl rfl zz2 (by kernel_rfl) (by rfl) (by simp [Value.oneCell']) ?_) | ((refine wpList_store_blk rfl 39 _ _ rfl rfl rfl zz3 (rs_info _) (by simp [rsC_size]) (rsC_one _) ?_); clear zz1 zz2 zz3; generalize (((((w'.alloc (.cells #[.slice none 0 0, .int .u64 0, .int .u64 0, .int .u64 0, .int .i64 0, .bool false, .bool false, .int .i64 0] 29)).alloc (.cells #[.int .u64 0, .slice none 0 0] 32)).alloc (.cells #[.int .u64 0, .bool false, .int .i64 0, .int .u64 0] 39)).setRow w'.heap.size (hrC ⟨AE, dE, aHe⟩)).setRow (w'.heap.size + 1) #[.int .u64 ((8192 : Nat) : Int), .slice BE aM3.length eE]).setRow (w'.heap.size + 1 + 1) (rsC ⟨7, ⟨false, 0, 0⟩⟩) = X at *)) | (refine wpList_load_blk (by rfl) 29 _ rfl rfl h8 Tryz.underlying29 rfl (by kernel_rfl) ?_) | (refine wpList_load_blk (by rfl) 32 _ rfl rfl h1 Tryz.underlying32 rfl (by kernel_rfl) ?_))
  generalize w'.heap.size = ggE at *
  refine (cF _ _ r1 hM (hTE _ HE.out)).mono ?_
  rintro r5 w' ⟨AF, BF, dF, eF, rfl, -, -, hE⟩
  (try replace hb := hb.ext hE); (try replace hc := hc.ext hE); (try replace h1 := h1.ext hE); (try replace h2 := h2.ext hE); (try replace h3 := h3.ext hE); (try replace h4 := h4.ext hE); (try replace h5 := h5.ext hE); (try replace h6 := h6.ext hE); (try replace h7 := h7.ext hE); (try replace h8 := h8.ext hE); (try replace k1 := k1.ext hE); (try replace k2 := k2.ext hE); (try replace k3 := k3.ext hE); (try replace k4 := k4.ext hE); (try replace k5 := k5.ext hE); (try replace hM := hM.ext hE); (try replace hN := hN.ext hE); (try replace hO := hO.ext hE); (try replace HE := Lib.hid (HE.out.trans hE)); (try replace HF := Lib.hid (HF.out.trans hE)); (try replace r0 := r0.ext hE); (try replace r1 := r1.ext hE); (try replace r2 := r2.ext hE); (try replace r3 := r3.ext hE); (try replace r4 := r4.ext hE); (try replace r5 := r5.ext hE); (try replace r6 := r6.ext hE)
  clear hE cF
  obtain ⟨zz1, zz2, zz3, hE, hb, hc, k4⟩ := nh3 w' (hrC ⟨AF, dF, HF⟩) #[.int .u64 ((8192 : Nat) : Int), .slice BF MF.length eF] (rsC ⟨0, ⟨true, 15, 0⟩⟩); (try replace hb := hb.ext hE); (try replace hc := hc.ext hE); (try replace h1 := h1.ext hE); (try replace h2 := h2.ext hE); (try replace h3 := h3.ext hE); (try replace h4 := h4.ext hE); (try replace h5 := h5.ext hE); (try replace h6 := h6.ext hE); (try replace h7 := h7.ext hE); (try replace h8 := h8.ext hE); (try replace k1 := k1.ext hE); (try replace k2 := k2.ext hE); (try replace k3 := k3.ext hE); (try replace k4 := k4.ext hE); (try replace k5 := k5.ext hE); (try replace hM := hM.ext hE); (try replace hN := hN.ext hE); (try replace hO := hO.ext hE); (try replace HE := Lib.hid (HE.out.trans hE)); (try replace HF := Lib.hid (HF.out.trans hE)); (try replace r0 := r0.ext hE); (try replace r1 := r1.ext hE); (try replace r2 := r2.ext hE); (try replace r3 := r3.ext hE); (try replace r4 := r4.ext hE); (try replace r5 := r5.ext hE); (try replace r6 := r6.ext hE); clear hE
  go_wp2_with (first | (first | (refine wpList_store_blk rfl 29 _ _ rfl rfl rfl zz1 (hr_info _) (by simp [hrC_size]) (hrC_one _) ?_) | (refine wpList_store_blk rfl 32 _ _ rfl rfl rfl zz2 (by kernel_rfl) (by rfl) (by simp [Value.oneCell']) ?_) | ((refine wpList_store_blk rfl 39 _ _ rfl rfl rfl zz3 (rs_info _) (by simp [rsC_size]) (rsC_one _) ?_); clear zz1 zz2 zz3; generalize (((((w'.alloc (.cells #[.slice none 0 0, .int .u64 0, .int .u64 0, .int .u64 0, .int .i64 0, .bool false, .bool false, .int .i64 0] 29)).alloc (.cells #[.int .u64 0, .slice none 0 0] 32)).alloc (.cells #[.int .u64 0, .bool false, .int .i64 0, .int .u64 0] 39)).setRow w'.heap.size (hrC ⟨AF, dF, HF⟩)).setRow (w'.heap.size + 1) #[.int .u64 ((8192 : Nat) : Int), .slice BF MF.length eF]).setRow (w'.heap.size + 1 + 1) (rsC ⟨0, ⟨true, 15, 0⟩⟩) = X at *)) | (refine wpList_load_blk (by rfl) 29 _ rfl rfl h8 Tryz.underlying29 rfl (by kernel_rfl) ?_) | (refine wpList_load_blk (by rfl) 32 _ rfl rfl h1 Tryz.underlying32 rfl (by kernel_rfl) ?_))
  clear hb hc
  generalize w'.heap.size = ggF at *
  refine (cG _ _ r1 hM (hTE _ HE.out)).mono ?_
  rintro r5 w' ⟨AG, BG, dG, eG, rfl, -, -, hE⟩
  (try replace hb := hb.ext hE); (try replace hc := hc.ext hE); (try replace h1 := h1.ext hE); (try replace h2 := h2.ext hE); (try replace h3 := h3.ext hE); (try replace h4 := h4.ext hE); (try replace h5 := h5.ext hE); (try replace h6 := h6.ext hE); (try replace h7 := h7.ext hE); (try replace h8 := h8.ext hE); (try replace k1 := k1.ext hE); (try replace k2 := k2.ext hE); (try replace k3 := k3.ext hE); (try replace k4 := k4.ext hE); (try replace k5 := k5.ext hE); (try replace hM := hM.ext hE); (try replace hN := hN.ext hE); (try replace hO := hO.ext hE); (try replace HE := Lib.hid (HE.out.trans hE)); (try replace HF := Lib.hid (HF.out.trans hE)); (try replace r0 := r0.ext hE); (try replace r1 := r1.ext hE); (try replace r2 := r2.ext hE); (try replace r3 := r3.ext hE); (try replace r4 := r4.ext hE); (try replace r5 := r5.ext hE); (try replace r6 := r6.ext hE)
  clear hE cG
  obtain ⟨zz1, zz2, zz3, hE, hb, hc, k5⟩ := nh3 w' (hrC ⟨AG, dG, HG⟩) #[.int .u64 ((8192 : Nat) : Int), .slice BG MG.length eG] (rsC ⟨0, ⟨true, 13, 274877906944⟩⟩); (try replace hb := hb.ext hE); (try replace hc := hc.ext hE); (try replace h1 := h1.ext hE); (try replace h2 := h2.ext hE); (try replace h3 := h3.ext hE); (try replace h4 := h4.ext hE); (try replace h5 := h5.ext hE); (try replace h6 := h6.ext hE); (try replace h7 := h7.ext hE); (try replace h8 := h8.ext hE); (try replace k1 := k1.ext hE); (try replace k2 := k2.ext hE); (try replace k3 := k3.ext hE); (try replace k4 := k4.ext hE); (try replace k5 := k5.ext hE); (try replace hM := hM.ext hE); (try replace hN := hN.ext hE); (try replace hO := hO.ext hE); (try replace HE := Lib.hid (HE.out.trans hE)); (try replace HF := Lib.hid (HF.out.trans hE)); (try replace r0 := r0.ext hE); (try replace r1 := r1.ext hE); (try replace r2 := r2.ext hE); (try replace r3 := r3.ext hE); (try replace r4 := r4.ext hE); (try replace r5 := r5.ext hE); (try replace r6 := r6.ext hE); clear hE
  go_upto_region 11 with (first | (refine wpList_store_blk rfl 29 _ _ rfl rfl rfl zz1 (hr_info _) (by simp [hrC_size]) (hrC_one _) ?_) | (refine wpList_store_blk rfl 32 _ _ rfl rfl rfl zz2 (by kernel_rfl) (by rfl) (by simp [Value.oneCell']) ?_) | ((refine wpList_store_blk rfl 39 _ _ rfl rfl rfl zz3 (rs_info _) (by simp [rsC_size]) (rsC_one _) ?_); clear zz1 zz2 zz3; generalize (((((w'.alloc (.cells #[.slice none 0 0, .int .u64 0, .int .u64 0, .int .u64 0, .int .i64 0, .bool false, .bool false, .int .i64 0] 29)).alloc (.cells #[.int .u64 0, .slice none 0 0] 32)).alloc (.cells #[.int .u64 0, .bool false, .int .i64 0, .int .u64 0] 39)).setRow w'.heap.size (hrC ⟨AG, dG, HG⟩)).setRow (w'.heap.size + 1) #[.int .u64 ((8192 : Nat) : Int), .slice BG MG.length eG]).setRow (w'.heap.size + 1 + 1) (rsC ⟨0, ⟨true, 13, 274877906944⟩⟩) = X at *))
  (try simp only [Act.put, List.setIfInBounds_toArray, List.set_cons_zero, List.set_cons_succ])
  clear hb hc
  generalize w'.heap.size = ggG at *
  obtain ⟨bd, od, rfl, hbd, hcl⟩ := hN.row.1 (by rw [aM2_len]; decide)
  have xv := (hcl 0 (by rw [aM2_len]; decide)).2
  rw [aM2_val] at xv
  simp only [Nat.zero_mul, Nat.add_zero] at xv
  have hcd := hN.row.2.2.1
  have hce := hN.row.2.2.2
  rw [aM2_len] at hcd h7
  have xm := (h7.cell 1)
  simp only [List.getElem?_toArray, List.getElem?_cons_succ, List.getElem?_cons_zero] at xm
  have xb : X.cell? ⟨ggB + 1 + 1, 2, none⟩ = some (.int .i64 4) := rng_cell h4.rs_f 1 (ftC_1 _)
  have xd : X.cell? ⟨ggD + 1 + 1, 1, none⟩ = some (.bool false) := rng_cell h6.rs_f 0 (ftC_0 _)
  have cal := fun W r => rall14_c AE aHe.L dE (by have := rt_len (right_split aHeR).1; omega) W r
  unfold MadeE at cal
  rw [aAll] at cal
  have cwd := fun W m => rword_x (w := W) (S := 8192) (A := BE) (L := aM3) (c := eE) m (a := 4096) (by decide)
  rw [aW] at cwd
  have crt := fun W r t => right16_c AE aHe dE W aHeOk r t
  rw [aHeR] at crt
  have cg1 := fun W r m t => agrees16_c AE aHe dE 8192 BE aM3 eE (right_split aHeR).1 aPp W r m t
  rw [aAg1] at cg1
  have cg2 := fun W r m t => agrees16_c AE aHe dE 8192 (some ⟨w.heap.size, 0, none⟩) aM 2 (right_split aHeR).1 aPp W r m t
  rw [aAg2, aM_len] at cg2
  have cwy := fun W => way16_c (some ⟨g8, 0, none⟩) aOn 1 2 W
  rw [aWay] at cwy
  clear hN hcl
  rw [rs_lit] at h3 h4 h5 h6 k3 k4 k5
  obtain ⟨va0, va1, va2, va3⟩ := h3.c4
  obtain ⟨vc0, vc1, vc2, vc3⟩ := h5.c4
  obtain ⟨ve0, ve1, ve2, ve3⟩ := k3.c4
  have vs := k1.hr.s
  simp only [hrC_eq] at crt cg1 cg2 cwy
  go_wp2_with fail
  refine (cal _ r2).mono ?_
  rintro r5 w' ⟨A9, c9, rfl, -, -, hE⟩
  clear va0 va1 va2 va3 vc0 vc1 vc2 vc3 ve0 ve1 ve2 ve3 vs xv xm xb xd
  (try replace hb := hb.ext hE); (try replace hc := hc.ext hE); (try replace h1 := h1.ext hE); (try replace h2 := h2.ext hE); (try replace h3 := h3.ext hE); (try replace h4 := h4.ext hE); (try replace h5 := h5.ext hE); (try replace h6 := h6.ext hE); (try replace h7 := h7.ext hE); (try replace h8 := h8.ext hE); (try replace k1 := k1.ext hE); (try replace k2 := k2.ext hE); (try replace k3 := k3.ext hE); (try replace k4 := k4.ext hE); (try replace k5 := k5.ext hE); (try replace hM := hM.ext hE); (try replace hN := hN.ext hE); (try replace hO := hO.ext hE); (try replace HE := Lib.hid (HE.out.trans hE)); (try replace HF := Lib.hid (HF.out.trans hE)); (try replace r0 := r0.ext hE); (try replace r1 := r1.ext hE); (try replace r2 := r2.ext hE); (try replace r3 := r3.ext hE); (try replace r4 := r4.ext hE); (try replace r5 := r5.ext hE); (try replace r6 := r6.ext hE)
  clear hE cal h3 h4 h5 h6 h7 k3 h2
  have y0 := k2.cell 0
  have y1 := k2.cell 1
  simp only [List.getElem?_toArray, List.getElem?_cons_succ, List.getElem?_cons_zero] at y0 y1
  go_wp2_with fail
  refine (cwd _ hO).mono ?_
  rintro r5 w' ⟨rfl, hE⟩
  clear y0 y1
  (try replace hb := hb.ext hE); (try replace hc := hc.ext hE); (try replace h1 := h1.ext hE); (try replace h2 := h2.ext hE); (try replace h3 := h3.ext hE); (try replace h4 := h4.ext hE); (try replace h5 := h5.ext hE); (try replace h6 := h6.ext hE); (try replace h7 := h7.ext hE); (try replace h8 := h8.ext hE); (try replace k1 := k1.ext hE); (try replace k2 := k2.ext hE); (try replace k3 := k3.ext hE); (try replace k4 := k4.ext hE); (try replace k5 := k5.ext hE); (try replace hM := hM.ext hE); (try replace hN := hN.ext hE); (try replace hO := hO.ext hE); (try replace HE := Lib.hid (HE.out.trans hE)); (try replace HF := Lib.hid (HF.out.trans hE)); (try replace r0 := r0.ext hE); (try replace r1 := r1.ext hE); (try replace r2 := r2.ext hE); (try replace r3 := r3.ext hE); (try replace r4 := r4.ext hE); (try replace r5 := r5.ext hE); (try replace r6 := r6.ext hE)
  clear hE cwd
  obtain ⟨-, -, vf2, -⟩ := k4.c4
  obtain ⟨-, -, vg2, -⟩ := k5.c4
  obtain ⟨u0, u1, u2, u3, u4, u5, u6, u7⟩ := k1.hr
  go_wp2_with fail
  refine (crt _ r2 (hTE _ HE.out).s).mono ?_
  rintro r5 w' ⟨rfl, hE⟩
  clear vf2 vg2 u0 u1 u2 u3 u4 u5 u6 u7
  (try replace hb := hb.ext hE); (try replace hc := hc.ext hE); (try replace h1 := h1.ext hE); (try replace h2 := h2.ext hE); (try replace h3 := h3.ext hE); (try replace h4 := h4.ext hE); (try replace h5 := h5.ext hE); (try replace h6 := h6.ext hE); (try replace h7 := h7.ext hE); (try replace h8 := h8.ext hE); (try replace k1 := k1.ext hE); (try replace k2 := k2.ext hE); (try replace k3 := k3.ext hE); (try replace k4 := k4.ext hE); (try replace k5 := k5.ext hE); (try replace hM := hM.ext hE); (try replace hN := hN.ext hE); (try replace hO := hO.ext hE); (try replace HE := Lib.hid (HE.out.trans hE)); (try replace HF := Lib.hid (HF.out.trans hE)); (try replace r0 := r0.ext hE); (try replace r1 := r1.ext hE); (try replace r2 := r2.ext hE); (try replace r3 := r3.ext hE); (try replace r4 := r4.ext hE); (try replace r5 := r5.ext hE); (try replace r6 := r6.ext hE)
  clear hE crt k4 k5
  obtain ⟨u0, u1, u2, u3, u4, u5, u6, u7⟩ := k1.hr
  have y0 := k2.cell 0
  have y1 := k2.cell 1
  simp only [List.getElem?_toArray, List.getElem?_cons_succ, List.getElem?_cons_zero] at y0 y1
  go_wp2_with fail
  refine (cg1 _ r2 hO (hTE _ HE.out)).mono ?_
  rintro r5 w' ⟨rfl, hE⟩
  clear y0 y1 u0 u1 u2 u3 u4 u5 u6 u7
  (try replace hb := hb.ext hE); (try replace hc := hc.ext hE); (try replace h1 := h1.ext hE); (try replace h2 := h2.ext hE); (try replace h3 := h3.ext hE); (try replace h4 := h4.ext hE); (try replace h5 := h5.ext hE); (try replace h6 := h6.ext hE); (try replace h7 := h7.ext hE); (try replace h8 := h8.ext hE); (try replace k1 := k1.ext hE); (try replace k2 := k2.ext hE); (try replace k3 := k3.ext hE); (try replace k4 := k4.ext hE); (try replace k5 := k5.ext hE); (try replace hM := hM.ext hE); (try replace hN := hN.ext hE); (try replace hO := hO.ext hE); (try replace HE := Lib.hid (HE.out.trans hE)); (try replace HF := Lib.hid (HF.out.trans hE)); (try replace r0 := r0.ext hE); (try replace r1 := r1.ext hE); (try replace r2 := r2.ext hE); (try replace r3 := r3.ext hE); (try replace r4 := r4.ext hE); (try replace r5 := r5.ext hE); (try replace r6 := r6.ext hE)
  clear hE cg1 k2 hO
  obtain ⟨u0, u1, u2, u3, u4, u5, u6, u7⟩ := k1.hr
  have y0 := h1.cell 0
  have y1 := h1.cell 1
  simp only [List.getElem?_toArray, List.getElem?_cons_succ, List.getElem?_cons_zero] at y0 y1
  go_wp2_with fail
  refine (cg2 _ r2 hM (hTE _ HE.out)).mono ?_
  rintro r5 w' ⟨rfl, hE⟩
  clear y0 y1 u0 u1 u2 u3 u4 u5 u6 u7
  (try replace hb := hb.ext hE); (try replace hc := hc.ext hE); (try replace h1 := h1.ext hE); (try replace h2 := h2.ext hE); (try replace h3 := h3.ext hE); (try replace h4 := h4.ext hE); (try replace h5 := h5.ext hE); (try replace h6 := h6.ext hE); (try replace h7 := h7.ext hE); (try replace h8 := h8.ext hE); (try replace k1 := k1.ext hE); (try replace k2 := k2.ext hE); (try replace k3 := k3.ext hE); (try replace k4 := k4.ext hE); (try replace k5 := k5.ext hE); (try replace hM := hM.ext hE); (try replace hN := hN.ext hE); (try replace hO := hO.ext hE); (try replace HE := Lib.hid (HE.out.trans hE)); (try replace HF := Lib.hid (HF.out.trans hE)); (try replace r0 := r0.ext hE); (try replace r1 := r1.ext hE); (try replace r2 := r2.ext hE); (try replace r3 := r3.ext hE); (try replace r4 := r4.ext hE); (try replace r5 := r5.ext hE); (try replace r6 := r6.ext hE)
  clear hE cg2 k1 hM r2 h1
  obtain ⟨u0, u1, u2, u3, u4, u5, u6, u7⟩ := h8.hr
  go_wp2_with fail
  refine (cwy _).mono ?_
  rintro r5 w' ⟨rfl, hE⟩
  rw [wyC_def]
  replace HE := Lib.hid (HE.out.trans hE)
  clear hE cwy h8 u0 u1 u2 u3 u4 u5 u6 u7
  go_wp2
  go_ret
  exact ⟨rfl, HE.out⟩
end Go.Proofs.YtledkljbegpdpaaGreatDoor
