/- awake of layer 19's laws. -/
import Derived.Test.YtcllbidhjggjiaaDoorLaw19a
import Derived.Test.YtcllbidhjggjiaaDoorGrtac
namespace Go.Proofs.YtcllbidhjggjiaaDoor
open Go.ChangeShapes Go.WideShapes Go.ChangeAt Go.RowKit
set_option linter.unusedVariables false
set_option linter.unusedSimpArgs false
set_option maxRecDepth 10000

def aL : List (Nat × Nat) := [(5, 7171)]
def aX : Pt := ⟨true, false, false, true, false, false, false, false, 0, 0, 0⟩
def aP : Pg := ⟨20480, 28672, 0, ⟨true, false, false, false⟩, false⟩
theorem aw_pg : pgL aL 0 0 = [aP] := by decide +kernel
theorem aw_sp : spotN aL 0 0 24576 = ⟨0, 0, zPt⟩ := by decide +kernel
theorem aw_st : (stS aL 0 6 (putN aX)).length = 2 ∧ mayB aX = true := by decide +kernel
theorem aw_cl : clrF aL 0 = [] := by decide +kernel
theorem aw_po : lowN' 1 = 0 ∧ takeF 1 = 0 ∧ freedN 0 1 0 0 = 1 ∧ isB 0 1 0 0 = true := by decide +kernel
theorem aw_em : empB aL 1 = true ∧ empB aL 0 = false ∧ frs aL 0 0 = [0] := by decide +kernel
theorem aw_tr : TreeOk 8192 aL 0 0 := right_tree.1 (by decide +kernel)
theorem aw_rl : RL (8192 / 8) aL := by unfold aL RL; simp
theorem aw_so : SizeOk 8192 := by unfold SizeOk; omega
theorem aw_in : SpotIn 8192 aL 0 0 24576 0 0 6 := by
  obtain ⟨s, l, j, h⟩ := spot_in aw_tr 24576
  have e := h.e
  rw [aw_sp] at e
  injection e with e1 e2 e3
  have e4 := h.je
  obtain rfl : s = 0 := e1.symm
  obtain rfl : l = 0 := by omega
  obtain rfl : j = 6 := by rw [e4]; decide +kernel
  exact h
def zSp : Spt := ⟨0, 0, zPt⟩
theorem aw_spz : Tryd.prog.built 65 [] = some (sptC zSp) := by unfold zSp zPt; rw [sptC_def, ptC_def]; kernel_rfl
theorem aw_ptb : Tryd.prog.built 53 [(0, .bool true), (3, .bool true)] = some (ptC aX) := by unfold aX; rw [ptC_def]; kernel_rfl
theorem aw_pmb : Tryd.prog.built 47 [(0, .bool true)] = some (pmC ⟨true, false, false, false⟩) := by rw [pmC_def]; kernel_rfl
theorem aw_pgb : Tryd.prog.built 49 [(0, .int .u64 20480), (1, .int .u64 28672), (3, .agg (pmC ⟨true, false, false, false⟩))] = some (pgC aP) := by unfold aP; simp only [pgC_def, pmC_def]; kernel_rfl
theorem aw_row (w : World) : RowL (w.alloc (.cells #[.int .u64 5, .int .u64 7171] 80)) (some ⟨w.heap.size, 0, none⟩) aL 1 := by
  refine ⟨fun _ => ⟨w.heap.size, 0, rfl, by simp, fun i hi => ?_⟩, fun e => (by cases e), by decide, by decide⟩
  have hi' : i < 1 := hi
  rw [World.cell?_alloc_at _ _ _ _ rfl, World.cell?_alloc_at _ _ _ _ rfl]
  match i, hi' with
  | 0, _ => exact ⟨by simp [atN, aL], by simp [vlN, aL]⟩
theorem aw_len : aL.length = 1 := rfl
theorem aw_sz : spotN aL 0 0 24576 = zSp := aw_sp
theorem aw_ok : aX.ok := by unfold aX Pt.ok; decide
theorem aw_one (w : World) : RowV KU (w.alloc (.cells #[.int .u64 0] 22)) (some ⟨w.heap.size, 0, none⟩) [0] 1 := by
  have h := Blk.new w 22 #[.int .u64 0]
  refine ⟨fun _ => ⟨w.heap.size, 0, rfl, h.lt, fun i hi => ?_⟩, (fun e => by cases e), (by simp), (by omega)⟩
  obtain rfl : i = 0 := by simp at hi; omega
  have := h.part 0 (ds := #[.int .u64 0]) (by rw [Nat.zero_add]; simp)
  simpa [KU] using this
attribute [irreducible] aL aX aP zSp
attribute [local irreducible] World.setRow World.alloc Blk
set_option maxRecDepth 100000 in
set_option maxHeartbeats 8000000 in
theorem awake19_c {T : World → Prop} (C : TableC T) : Awk19 T := by
  intro w hT
  have hTE : ∀ W : World, Ext w W → T W := fun W e => C.ext _ _ hT e
  obtain ⟨W0, hW⟩ : ∃ W0, W0 = (w.alloc (.cells #[.int .u64 5, .int .u64 7171] 80)).alloc (.cells #[.int .u64 8192, .slice (some ⟨w.heap.size, 0, none⟩) 1 1] 25) := ⟨_, rfl⟩
  have HE : Hid (Ext w W0) := Lib.hid (by rw [hW]; exact ((Ext.refl w).alloc _).alloc _)
  have hM : Mem W0 8192 (some ⟨w.heap.size, 0, none⟩) aL 1 := ⟨by rw [hW]; exact (aw_row w).ext ((Ext.refl _).alloc _), aw_rl, aw_so, by unfold aL; decide⟩
  have h1 : Blk W0 (w.heap.size + 1) 25 #[.int .u64 8192, .slice (some ⟨w.heap.size, 0, none⟩) 1 1] := by rw [hW]; exact blk_at (by simp)
  have HW := Lib.hid hW.symm
  clear hW
  go_enter Tryd.func8, Tryd.ntmps8
  go_upto_region 2 with fail
  rw [HW.out]
  clear HW
  have cpg := fun W (m : Mem W 8192 (some ⟨w.heap.size, 0, none⟩) aL 1) k => C.pages W m (by decide) aw_tr k
  have cre := fun W (m : Mem W 8192 (some ⟨w.heap.size, 0, none⟩) aL 1) k => C.reach (a := 24576) W m (by decide) aw_tr (by decide +kernel) (by decide) k
  have cwi := fun W (m : Mem W 8192 (some ⟨w.heap.size, 0, none⟩) aL 1) k => C.with_ W m (by rw [aw_len]; decide) (by decide) aw_tr (by decide +kernel) (by decide) aw_in aw_st.2 aw_ok k
  have cfy := fun W (m : Mem W 8192 (some ⟨w.heap.size, 0, none⟩) aL 1) k => C.fresh_yes (P := 0) (M := 1) (F := 1) W m (by decide) (by decide) (by decide) (by decide) (by decide) k
  have cfn := fun W (m : Mem W 8192 (some ⟨w.heap.size, 0, none⟩) aL 1) k => C.fresh_no (P := 0) (M := 1) W m (by decide) (by decide) k
  have cbk := fun W (m : Mem W 8192 (some ⟨w.heap.size, 0, none⟩) aL 1) k => C.back (P := 0) (M := 1) (F := 0) (f := 0) W m (by decide) (by decide) (by decide) aw_po.2.2.2 (by decide) k
  have ce1 := fun W (m : Mem W 8192 (some ⟨w.heap.size, 0, none⟩) aL 1) k => C.empty (f := 1) W m (by decide) k
  have ce0 := fun W (m : Mem W 8192 (some ⟨w.heap.size, 0, none⟩) aL 1) k => C.empty (f := 0) W m (by decide) k
  have cfr := fun W (m : Mem W 8192 (some ⟨w.heap.size, 0, none⟩) aL 1) k => C.frames W m (by decide) aw_tr k
  unfold MdT at cwi
  unfold FrT at cfy cfn
  simp only [aw_len, aw_pg, aw_sz, aw_st.1, aw_po.1, aw_po.2.1, aw_po.2.2.1, Nat.add_zero, aw_cl, aw_em.1, aw_em.2.1, aw_em.2.2, List.length_cons, List.length_nil, Nat.zero_add, show ((0 : Nat) : Int) = 0 from rfl, show ((1 : Nat) : Int) = 1 from rfl, show ((2 : Nat) : Int) = 2 from rfl, show ((8192 : Nat) : Int) = 8192 from rfl, show ((24576 : Nat) : Int) = 24576 from rfl] at cpg cre cwi cfy cfn cbk ce1 ce0 cfr
  go_wp2_with (refine wpList_load_blk (by rfl) 25 _ rfl rfl h1 Tryd.underlying25 rfl (by kernel_rfl) ?_)
  refine (cpg _ hM (hTE _ HE.out)).mono ?_
  rintro e w1 ⟨AP, cP, rfl, r1, -, hE⟩
  (try replace h1 := h1.ext hE); (try replace h3 := h3.ext hE); (try replace h4 := h4.ext hE); (try replace h5 := h5.ext hE); (try replace h6 := h6.ext hE); (try replace h7 := h7.ext hE); (try replace h8 := h8.ext hE); (try replace k1 := k1.ext hE); (try replace k2 := k2.ext hE); (try replace hM := hM.ext hE); (try replace HE := Lib.hid (HE.out.trans hE)); (try replace r0 := r0.ext hE); (try replace r1 := r1.ext hE); (try replace r2 := r2.ext hE); (try replace r3 := r3.ext hE); (try replace r4 := r4.ext hE); (try replace r5 := r5.ext hE); (try replace r6 := r6.ext hE)
  clear hE cpg
  go_wp2_with (refine wpList_load_blk (by rfl) 25 _ rfl rfl h1 Tryd.underlying25 rfl (by kernel_rfl) ?_)
  refine (cre _ hM (hTE _ HE.out)).mono ?_
  rintro e w2 ⟨rfl, hE⟩
  (try replace h1 := h1.ext hE); (try replace h3 := h3.ext hE); (try replace h4 := h4.ext hE); (try replace h5 := h5.ext hE); (try replace h6 := h6.ext hE); (try replace h7 := h7.ext hE); (try replace h8 := h8.ext hE); (try replace k1 := k1.ext hE); (try replace k2 := k2.ext hE); (try replace hM := hM.ext hE); (try replace HE := Lib.hid (HE.out.trans hE)); (try replace r0 := r0.ext hE); (try replace r1 := r1.ext hE); (try replace r2 := r2.ext hE); (try replace r3 := r3.ext hE); (try replace r4 := r4.ext hE); (try replace r5 := r5.ext hE); (try replace r6 := r6.ext hE)
  clear hE cre
  have zz1 : Blk (w2.alloc (.cells #[.int .u64 0, .int .i64 0, .bool false, .bool false, .bool false, .bool false, .bool false, .bool false, .bool false, .bool false, .int .u64 0, .int .u64 0, .int .u64 0] 65)) w2.heap.size 65 #[.int .u64 0, .int .i64 0, .bool false, .bool false, .bool false, .bool false, .bool false, .bool false, .bool false, .bool false, .int .u64 0, .int .u64 0, .int .u64 0] := Blk.new _ _ _; have hE := ((Ext.refl w2).alloc (.cells #[.int .u64 0, .int .i64 0, .bool false, .bool false, .bool false, .bool false, .bool false, .bool false, .bool false, .bool false, .int .u64 0, .int .u64 0, .int .u64 0] 65)).row (Nat.le_refl w2.heap.size) (sptC zSp); (try replace h1 := h1.ext hE); (try replace h3 := h3.ext hE); (try replace h4 := h4.ext hE); (try replace h5 := h5.ext hE); (try replace h6 := h6.ext hE); (try replace h7 := h7.ext hE); (try replace h8 := h8.ext hE); (try replace k1 := k1.ext hE); (try replace k2 := k2.ext hE); (try replace hM := hM.ext hE); (try replace HE := Lib.hid (HE.out.trans hE)); (try replace r0 := r0.ext hE); (try replace r1 := r1.ext hE); (try replace r2 := r2.ext hE); (try replace r3 := r3.ext hE); (try replace r4 := r4.ext hE); (try replace r5 := r5.ext hE); (try replace r6 := r6.ext hE); clear hE; have h3 := zz1.row (sptC zSp)
  go_wp2_with (first | ((refine wpList_store_blk rfl 65 _ _ rfl rfl rfl zz1 (spt_info _) (by simp [sptC_size]) (sptC_one _) ?_); clear zz1; generalize (w2.alloc (.cells #[.int .u64 0, .int .i64 0, .bool false, .bool false, .bool false, .bool false, .bool false, .bool false, .bool false, .bool false, .int .u64 0, .int .u64 0, .int .u64 0] 65)).setRow w2.heap.size (sptC zSp) = X at *) | (refine wpList_load_blk (by rfl) 25 _ rfl rfl h1 Tryd.underlying25 rfl (by kernel_rfl) ?_) | (refine wpList_load_blk (by rfl) 65 _ rfl rfl h3 Tryd.underlying65 rfl (by kernel_rfl) ?_) | (refine wpList_build_as (by rfl) rfl (aw_ptb) ?_))
  refine (cwi _ hM (hTE _ HE.out)).mono ?_
  rintro e w4 ⟨B4, d4, rfl, -, hE⟩
  (try replace h1 := h1.ext hE); (try replace h3 := h3.ext hE); (try replace h4 := h4.ext hE); (try replace h5 := h5.ext hE); (try replace h6 := h6.ext hE); (try replace h7 := h7.ext hE); (try replace h8 := h8.ext hE); (try replace k1 := k1.ext hE); (try replace k2 := k2.ext hE); (try replace hM := hM.ext hE); (try replace HE := Lib.hid (HE.out.trans hE)); (try replace r0 := r0.ext hE); (try replace r1 := r1.ext hE); (try replace r2 := r2.ext hE); (try replace r3 := r3.ext hE); (try replace r4 := r4.ext hE); (try replace r5 := r5.ext hE); (try replace r6 := r6.ext hE)
  clear hE cwi
  obtain ⟨zz1, hE, h4⟩ := nm1 w4 #[.int .u64 8192, .slice B4 2 d4]
  (try replace h1 := h1.ext hE); (try replace h3 := h3.ext hE); (try replace h4 := h4.ext hE); (try replace h5 := h5.ext hE); (try replace h6 := h6.ext hE); (try replace h7 := h7.ext hE); (try replace h8 := h8.ext hE); (try replace k1 := k1.ext hE); (try replace k2 := k2.ext hE); (try replace hM := hM.ext hE); (try replace HE := Lib.hid (HE.out.trans hE)); (try replace r0 := r0.ext hE); (try replace r1 := r1.ext hE); (try replace r2 := r2.ext hE); (try replace r3 := r3.ext hE); (try replace r4 := r4.ext hE); (try replace r5 := r5.ext hE); (try replace r6 := r6.ext hE)
  clear hE
  go_wp2_with (first | ((refine wpList_store_blk rfl 25 _ _ rfl rfl rfl zz1 (by kernel_rfl) (by rfl) (by simp [Value.oneCell']) ?_); clear zz1; generalize (w4.alloc (.cells #[.int .u64 0, .slice none 0 0] 25)).setRow w4.heap.size #[.int .u64 8192, .slice B4 2 d4] = X4 at *) | (refine wpList_load_blk (by rfl) 25 _ rfl rfl h1 Tryd.underlying25 rfl (by kernel_rfl) ?_))
  refine (cfy _ hM (hTE _ HE.out)).mono ?_
  rintro e w5 ⟨B5, d5, rfl, -, hE⟩
  (try replace h1 := h1.ext hE); (try replace h3 := h3.ext hE); (try replace h4 := h4.ext hE); (try replace h5 := h5.ext hE); (try replace h6 := h6.ext hE); (try replace h7 := h7.ext hE); (try replace h8 := h8.ext hE); (try replace k1 := k1.ext hE); (try replace k2 := k2.ext hE); (try replace hM := hM.ext hE); (try replace HE := Lib.hid (HE.out.trans hE)); (try replace r0 := r0.ext hE); (try replace r1 := r1.ext hE); (try replace r2 := r2.ext hE); (try replace r3 := r3.ext hE); (try replace r4 := r4.ext hE); (try replace r5 := r5.ext hE); (try replace r6 := r6.ext hE)
  clear hE cfy
  obtain ⟨zz1, zz2, hE, h5, h6⟩ := nmp w5 #[.int .u64 8192, .slice B5 0 d5] #[.int .u64 0, .int .i64 1, .int .u64 0]; (try replace h1 := h1.ext hE); (try replace h3 := h3.ext hE); (try replace h4 := h4.ext hE); (try replace h5 := h5.ext hE); (try replace h6 := h6.ext hE); (try replace h7 := h7.ext hE); (try replace h8 := h8.ext hE); (try replace k1 := k1.ext hE); (try replace k2 := k2.ext hE); (try replace hM := hM.ext hE); (try replace HE := Lib.hid (HE.out.trans hE)); (try replace r0 := r0.ext hE); (try replace r1 := r1.ext hE); (try replace r2 := r2.ext hE); (try replace r3 := r3.ext hE); (try replace r4 := r4.ext hE); (try replace r5 := r5.ext hE); (try replace r6 := r6.ext hE)
  clear hE
  go_wp2_with (first | (first | (refine wpList_store_blk rfl 25 _ _ rfl rfl rfl zz1 (by kernel_rfl) (by rfl) (by simp [Value.oneCell']) ?_) | ((refine wpList_store_blk rfl 27 _ _ rfl rfl rfl zz2 (by kernel_rfl) (by rfl) (by simp [Value.oneCell']) ?_); clear zz1 zz2; generalize (((w5.alloc (.cells #[.int .u64 0, .slice none 0 0] 25)).alloc (.cells #[.int .u64 0, .int .i64 0, .int .u64 0] 27)).setRow w5.heap.size #[.int .u64 8192, .slice B5 0 d5]).setRow (w5.heap.size + 1) #[.int .u64 0, .int .i64 1, .int .u64 0] = X5 at *)) | (refine wpList_load_blk (by rfl) 25 _ rfl rfl h1 Tryd.underlying25 rfl (by kernel_rfl) ?_) | (refine wpList_load_blk (by rfl) 27 _ rfl rfl h6 Tryd.underlying27 rfl (by kernel_rfl) ?_))
  refine (cfn _ hM (hTE _ HE.out)).mono ?_
  rintro e w6 ⟨B6, d6, rfl, -, hE⟩
  (try replace h1 := h1.ext hE); (try replace h3 := h3.ext hE); (try replace h4 := h4.ext hE); (try replace h5 := h5.ext hE); (try replace h6 := h6.ext hE); (try replace h7 := h7.ext hE); (try replace h8 := h8.ext hE); (try replace k1 := k1.ext hE); (try replace k2 := k2.ext hE); (try replace hM := hM.ext hE); (try replace HE := Lib.hid (HE.out.trans hE)); (try replace r0 := r0.ext hE); (try replace r1 := r1.ext hE); (try replace r2 := r2.ext hE); (try replace r3 := r3.ext hE); (try replace r4 := r4.ext hE); (try replace r5 := r5.ext hE); (try replace r6 := r6.ext hE)
  clear hE cfn
  obtain ⟨zz1, zz2, hE, h7, h8⟩ := nmp w6 #[.int .u64 8192, .slice B6 1 d6] #[.int .u64 0, .int .i64 1, .int .u64 0]; (try replace h1 := h1.ext hE); (try replace h3 := h3.ext hE); (try replace h4 := h4.ext hE); (try replace h5 := h5.ext hE); (try replace h6 := h6.ext hE); (try replace h7 := h7.ext hE); (try replace h8 := h8.ext hE); (try replace k1 := k1.ext hE); (try replace k2 := k2.ext hE); (try replace hM := hM.ext hE); (try replace HE := Lib.hid (HE.out.trans hE)); (try replace r0 := r0.ext hE); (try replace r1 := r1.ext hE); (try replace r2 := r2.ext hE); (try replace r3 := r3.ext hE); (try replace r4 := r4.ext hE); (try replace r5 := r5.ext hE); (try replace r6 := r6.ext hE)
  clear hE
  go_wp2_with (first | (first | (refine wpList_store_blk rfl 25 _ _ rfl rfl rfl zz1 (by kernel_rfl) (by rfl) (by simp [Value.oneCell']) ?_) | ((refine wpList_store_blk rfl 27 _ _ rfl rfl rfl zz2 (by kernel_rfl) (by rfl) (by simp [Value.oneCell']) ?_); clear zz1 zz2; generalize (((w6.alloc (.cells #[.int .u64 0, .slice none 0 0] 25)).alloc (.cells #[.int .u64 0, .int .i64 0, .int .u64 0] 27)).setRow w6.heap.size #[.int .u64 8192, .slice B6 1 d6]).setRow (w6.heap.size + 1) #[.int .u64 0, .int .i64 1, .int .u64 0] = X6 at *)) | (refine wpList_load_blk (by rfl) 25 _ rfl rfl h1 Tryd.underlying25 rfl (by kernel_rfl) ?_) | (refine wpList_load_blk (by rfl) 27 _ rfl rfl h6 Tryd.underlying27 rfl (by kernel_rfl) ?_))
  clear h7 h8
  refine (cbk _ hM (hTE _ HE.out)).mono ?_
  rintro e w7 ⟨B7, d7, rfl, -, hE⟩
  (try replace h1 := h1.ext hE); (try replace h3 := h3.ext hE); (try replace h4 := h4.ext hE); (try replace h5 := h5.ext hE); (try replace h6 := h6.ext hE); (try replace h7 := h7.ext hE); (try replace h8 := h8.ext hE); (try replace k1 := k1.ext hE); (try replace k2 := k2.ext hE); (try replace hM := hM.ext hE); (try replace HE := Lib.hid (HE.out.trans hE)); (try replace r0 := r0.ext hE); (try replace r1 := r1.ext hE); (try replace r2 := r2.ext hE); (try replace r3 := r3.ext hE); (try replace r4 := r4.ext hE); (try replace r5 := r5.ext hE); (try replace r6 := r6.ext hE)
  clear hE cbk
  obtain ⟨zz1, zz2, hE, k1, k2⟩ := nmp w7 #[.int .u64 8192, .slice B7 0 d7] #[.int .u64 0, .int .i64 1, .int .u64 1]; (try replace h1 := h1.ext hE); (try replace h3 := h3.ext hE); (try replace h4 := h4.ext hE); (try replace h5 := h5.ext hE); (try replace h6 := h6.ext hE); (try replace h7 := h7.ext hE); (try replace h8 := h8.ext hE); (try replace k1 := k1.ext hE); (try replace k2 := k2.ext hE); (try replace hM := hM.ext hE); (try replace HE := Lib.hid (HE.out.trans hE)); (try replace r0 := r0.ext hE); (try replace r1 := r1.ext hE); (try replace r2 := r2.ext hE); (try replace r3 := r3.ext hE); (try replace r4 := r4.ext hE); (try replace r5 := r5.ext hE); (try replace r6 := r6.ext hE)
  clear hE
  go_upto_region 8 with (first | (first | (refine wpList_store_blk rfl 25 _ _ rfl rfl rfl zz1 (by kernel_rfl) (by rfl) (by simp [Value.oneCell']) ?_) | ((refine wpList_store_blk rfl 27 _ _ rfl rfl rfl zz2 (by kernel_rfl) (by rfl) (by simp [Value.oneCell']) ?_); clear zz1 zz2; generalize (((w7.alloc (.cells #[.int .u64 0, .slice none 0 0] 25)).alloc (.cells #[.int .u64 0, .int .i64 0, .int .u64 0] 27)).setRow w7.heap.size #[.int .u64 8192, .slice B7 0 d7]).setRow (w7.heap.size + 1) #[.int .u64 0, .int .i64 1, .int .u64 1] = X7 at *)) | (refine wpList_load_blk (by rfl) 25 _ rfl rfl h1 Tryd.underlying25 rfl (by kernel_rfl) ?_) | (refine wpList_load_blk (by rfl) 27 _ rfl rfl h6 Tryd.underlying27 rfl (by kernel_rfl) ?_))
  (try simp only [Act.put, List.setIfInBounds_toArray, List.set_cons_zero, List.set_cons_succ])
  simp only [List.append]
  obtain ⟨b1, o1, rfl, -, -⟩ := r1.1 (by decide)
  have e1 : X7.rangeAt b1 (o1 + 0 * 8) (pgC aP).toList := r1.at (i := 0) (by decide)
  rw [Nat.zero_mul, Nat.add_zero] at e1
  have x4 : X7.cell? ⟨w4.heap.size, 1, none⟩ = some (.slice B4 2 d4) := h4.cell 1
  have x5 : X7.cell? ⟨w5.heap.size, 1, none⟩ = some (.slice B5 0 d5) := h5.cell 1
  have xk : X7.cell? ⟨w7.heap.size, 1, none⟩ = some (.slice B7 0 d7) := k1.cell 1
  have xp : X7.cell? ⟨w7.heap.size + 1, 2, none⟩ = some (.int .u64 1) := k2.cell 2
  clear r1 h4 h5 h6 k1 k2
  go_wp2_with (first | (refine wpList_load_blk (by rfl) 25 _ rfl rfl h1 Tryd.underlying25 rfl (by kernel_rfl) ?_) | (refine wpList_load_rng (by rfl) 49 _ rfl rfl e1 Tryd.underlying49 rfl (pg_info _) ?_) | (refine wpList_build_as (by rfl) rfl (aw_pmb) ?_) | (refine wpList_build_as (by rfl) rfl (aw_pgb) ?_) | (refine wpList_build_as (by rfl) rfl (aw_spz) ?_) | (refine wpList_load_blk (by rfl) 65 _ rfl rfl h3 Tryd.underlying65 rfl (by kernel_rfl) ?_) | (refine wpList_cmp (op := .eql) (by rfl) 49 rfl rfl rfl (pg_guard) ((fun w => run_b (eql_pg w _ _) (dec_same _))) ?_) | (refine wpList_cmp (op := .eql) (by rfl) 65 rfl rfl rfl (spt_guard) ((fun w => run_b (eql_spt w _ _) (dec_same _))) ?_))
  refine (ce1 _ hM (hTE _ HE.out)).mono ?_
  rintro e w8 ⟨rfl, hE⟩
  (try replace h1 := h1.ext hE); (try replace h3 := h3.ext hE); (try replace h4 := h4.ext hE); (try replace h5 := h5.ext hE); (try replace h6 := h6.ext hE); (try replace h7 := h7.ext hE); (try replace h8 := h8.ext hE); (try replace k1 := k1.ext hE); (try replace k2 := k2.ext hE); (try replace hM := hM.ext hE); (try replace HE := Lib.hid (HE.out.trans hE)); (try replace r0 := r0.ext hE); (try replace r1 := r1.ext hE); (try replace r2 := r2.ext hE); (try replace r3 := r3.ext hE); (try replace r4 := r4.ext hE); (try replace r5 := r5.ext hE); (try replace r6 := r6.ext hE)
  clear hE ce1 e1 x4 x5 xk xp h3
  go_wp2_with (refine wpList_load_blk (by rfl) 25 _ rfl rfl h1 Tryd.underlying25 rfl (by kernel_rfl) ?_)
  refine (ce0 _ hM (hTE _ HE.out)).mono ?_
  rintro e w9 ⟨rfl, hE⟩
  (try replace h1 := h1.ext hE); (try replace h3 := h3.ext hE); (try replace h4 := h4.ext hE); (try replace h5 := h5.ext hE); (try replace h6 := h6.ext hE); (try replace h7 := h7.ext hE); (try replace h8 := h8.ext hE); (try replace k1 := k1.ext hE); (try replace k2 := k2.ext hE); (try replace hM := hM.ext hE); (try replace HE := Lib.hid (HE.out.trans hE)); (try replace r0 := r0.ext hE); (try replace r1 := r1.ext hE); (try replace r2 := r2.ext hE); (try replace r3 := r3.ext hE); (try replace r4 := r4.ext hE); (try replace r5 := r5.ext hE); (try replace r6 := r6.ext hE)
  clear hE ce0
  go_wp2_with (refine wpList_load_blk (by rfl) 25 _ rfl rfl h1 Tryd.underlying25 rfl (by kernel_rfl) ?_)
  refine (cfr _ hM (hTE _ HE.out)).mono ?_
  rintro e wa ⟨Af, cf, rfl, rf, hE⟩
  (try replace h1 := h1.ext hE); (try replace h3 := h3.ext hE); (try replace h4 := h4.ext hE); (try replace h5 := h5.ext hE); (try replace h6 := h6.ext hE); (try replace h7 := h7.ext hE); (try replace h8 := h8.ext hE); (try replace k1 := k1.ext hE); (try replace k2 := k2.ext hE); (try replace hM := hM.ext hE); (try replace HE := Lib.hid (HE.out.trans hE)); (try replace r0 := r0.ext hE); (try replace r1 := r1.ext hE); (try replace r2 := r2.ext hE); (try replace r3 := r3.ext hE); (try replace r4 := r4.ext hE); (try replace r5 := r5.ext hE); (try replace r6 := r6.ext hE)
  clear hE cfr h1 hM
  have r9 := aw_one wa
  replace rf := rf.ext ((Ext.refl wa).alloc (.cells #[.int .u64 0] 22))
  have HE9 := Lib.hid (HE.out.alloc (.cells #[.int .u64 0] 22))
  go_wp2_with fail
  refine (rints19_c _ _ _ _ _ _ _ rf r9).mono ?_
  rw [decide_eq_true rfl]
  rintro e wb ⟨rfl, hE⟩
  replace HE := Lib.hid (HE9.out.trans hE)
  clear hE
  go_wp2
  go_ret
  exact ⟨rfl, HE.out⟩
end Go.Proofs.YtcllbidhjggjiaaDoor
