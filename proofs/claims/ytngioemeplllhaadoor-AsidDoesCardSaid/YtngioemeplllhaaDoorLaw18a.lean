/- Layer 18's laws: what they take of package asid (AsidC); awake. -/
import Derived.Test.YtngioemeplllhaaDoorRasid
namespace Go.Proofs.YtngioemeplllhaaDoor
open Go.ChangeShapes Go.WideShapes Go.ChangeAt Go.RowKit
set_option linter.unusedVariables false
set_option linter.unusedSimpArgs false
set_option maxRecDepth 10000

/-- what package asid answers, in worlds of which T holds (what it takes of laid variables) -/
structure AsidC (T : World → Prop) : Prop where
  ext : ∀ w w', T w → Ext w w' → T w'
  new : ∀ (y : Int) (w : World), -9223372036854775808 ≤ y ∧ y ≤ 9223372036854775807 → T w → Calls Tryd.prog 7 #[.int .i64 y] w fun e w' => e = .returned (.tuple #[.agg (anC (anN y)), .int .i64 (anNe y)]) ∧ Ext w w'
  right : ∀ (p : As) (w : World), p.ok → T w → Calls Tryd.prog 9 #[.agg (anC p)] w fun e w' => e = .returned (.bool (anR p)) ∧ Ext w w'
  free : ∀ (p : As) (m : Nat) (w : World), AnOk p m → T w → Calls Tryd.prog 15 #[.agg (anC p)] w fun e w' => e = .returned (.int .i64 ((popN p.fr 64 : Nat) : Int)) ∧ Ext w w'
  take : ∀ (p : As) (m : Nat) (w : World), AnOk p m → T w → Calls Tryd.prog 11 #[.agg (anC p)] w fun e w' => e = .returned (.tuple #[.agg (anC (anT p)), .int .u64 (anX p : Int), .bool (anO p), .int .i64 (anTe p)]) ∧ Ext w w'
  give : ∀ (p : As) (m n : Nat) (w : World), AnOk p m → n < 18446744073709551616 → T w → Calls Tryd.prog 13 #[.agg (anC p), .int .u64 (n : Int)] w fun e w' => e = .returned (.tuple #[.agg (anC (anG p n)), .int .i64 (anGe p n)]) ∧ Ext w w'
theorem aw0 : anN 2 = ⟨2, 3, 0⟩ ∧ anNe 2 = 0 := by decide +kernel
theorem aw1 : anT ⟨2, 3, 0⟩ = ⟨2, 2, 1⟩ ∧ anX ⟨2, 3, 0⟩ = 1 ∧ anO ⟨2, 3, 0⟩ = false ∧ anTe ⟨2, 3, 0⟩ = 0 := by decide +kernel
theorem aw2 : anT ⟨2, 2, 1⟩ = ⟨2, 0, 3⟩ ∧ anX ⟨2, 2, 1⟩ = 2 ∧ anO ⟨2, 2, 1⟩ = false ∧ anTe ⟨2, 2, 1⟩ = 0 := by decide +kernel
theorem aw3 : anT ⟨2, 0, 3⟩ = ⟨2, 0, 3⟩ ∧ anX ⟨2, 0, 3⟩ = 0 ∧ anO ⟨2, 0, 3⟩ = false ∧ anTe ⟨2, 0, 3⟩ = 9 := by decide +kernel
theorem aw4 : anG ⟨2, 0, 3⟩ 1 = ⟨2, 1, 3⟩ ∧ anGe ⟨2, 0, 3⟩ 1 = 0 := by decide +kernel
theorem aw5 : anG ⟨2, 1, 3⟩ 1 = ⟨2, 1, 3⟩ ∧ anGe ⟨2, 1, 3⟩ 1 = 1 := by decide +kernel
theorem aw6 : anT ⟨2, 1, 3⟩ = ⟨2, 0, 3⟩ ∧ anX ⟨2, 1, 3⟩ = 1 ∧ anO ⟨2, 1, 3⟩ = true ∧ anTe ⟨2, 1, 3⟩ = 0 := by decide +kernel
theorem aw7 : anN 17 = anZ ∧ anNe 17 = 1 := by decide +kernel
theorem aw8 : popN 1 64 = 1 ∧ anR ⟨2, 1, 3⟩ = true ∧ anR anZ = false := by decide +kernel
theorem an_build0 : Tryd.prog.built 24 [] = some (anC anZ) := by rw [anC_zero]; kernel_rfl
attribute [local irreducible] World.setRow World.alloc Blk
set_option maxRecDepth 100000 in
set_option maxHeartbeats 4000000 in
theorem awake18_c {T : World → Prop} (C : AsidC T) (w : World) (hT : T w) :
    Calls Tryd.prog 6 #[] w fun e w' => e = .returned (.bool true) ∧ Ext w w' := by
  have hTE : ∀ W : World, Ext w W → T W := fun W e => C.ext _ _ hT e
  have HE := Lib.hid (Ext.refl w)
  have c0 := fun W t => C.new 2 W (by decide) t
  have c1 := fun W t => C.take ⟨2, 3, 0⟩ 2 W ⟨rfl, by decide, by decide, by decide, by decide⟩ t
  have c2 := fun W t => C.take ⟨2, 2, 1⟩ 2 W ⟨rfl, by decide, by decide, by decide, by decide⟩ t
  have c3 := fun W t => C.take ⟨2, 0, 3⟩ 2 W ⟨rfl, by decide, by decide, by decide, by decide⟩ t
  have c4 := fun W t => C.give ⟨2, 0, 3⟩ 2 1 W ⟨rfl, by decide, by decide, by decide, by decide⟩ (by decide) t
  have c5 := fun W t => C.give ⟨2, 1, 3⟩ 2 1 W ⟨rfl, by decide, by decide, by decide, by decide⟩ (by decide) t
  have c6 := fun W t => C.take ⟨2, 1, 3⟩ 2 W ⟨rfl, by decide, by decide, by decide, by decide⟩ t
  have c7 := fun W t => C.new 17 W (by decide) t
  have c8 := fun W t => C.free ⟨2, 1, 3⟩ 2 W ⟨rfl, by decide, by decide, by decide, by decide⟩ t
  have c9 := fun W t => C.right ⟨2, 1, 3⟩ W ⟨by decide, by decide, by decide⟩ t
  have cz := fun W t => C.right anZ W ⟨by decide, by decide, by decide⟩ t
  simp only [aw0.1, aw0.2] at c0
  simp only [aw1.1, aw1.2.1, aw1.2.2.1, aw1.2.2.2] at c1
  simp only [aw2.1, aw2.2.1, aw2.2.2.1, aw2.2.2.2] at c2
  simp only [aw3.1, aw3.2.1, aw3.2.2.1, aw3.2.2.2] at c3
  simp only [aw4.1, aw4.2] at c4
  simp only [aw5.1, aw5.2] at c5
  simp only [aw6.1, aw6.2.1, aw6.2.2.1, aw6.2.2.2] at c6
  simp only [aw7.1, aw7.2] at c7
  simp only [aw8.1] at c8
  rw [aw8.2.1] at c9
  rw [aw8.2.2] at cz
  generalize (⟨2, 3, 0⟩ : As) = P0 at *
  generalize (⟨2, 2, 1⟩ : As) = P1 at *
  generalize (⟨2, 0, 3⟩ : As) = P2 at *
  generalize (⟨2, 1, 3⟩ : As) = P3 at *
  have hbz := an_build0
  generalize anZ = P4 at *
  clear hT
  go_enter Tryd.func6, Tryd.ntmps6
  go_wp2_with (fail); refine (c0 _ (hTE _ HE.out)).mono ?_; rintro e w' ⟨rfl, hE⟩; (try replace h1 := h1.ext hE); (try replace h2 := h2.ext hE); (try replace HE := Lib.hid (HE.out.trans hE)); (try replace r0 := r0.ext hE); (try replace r1 := r1.ext hE); (try replace r2 := r2.ext hE); (try replace r3 := r3.ext hE); (try replace r4 := r4.ext hE); (try replace r5 := r5.ext hE); (try replace r6 := r6.ext hE); clear hE
  clear c0
  have zz1 : Blk (w'.alloc (.cells #[.int .i64 0, .int .u64 0, .int .u64 0] 24)) w'.heap.size 24 #[.int .i64 0, .int .u64 0, .int .u64 0] := Blk.new _ _ _; have hE := ((Ext.refl w').alloc (.cells #[.int .i64 0, .int .u64 0, .int .u64 0] 24)).row (Nat.le_refl w'.heap.size) (anC P0); (try replace h1 := h1.ext hE); (try replace h2 := h2.ext hE); (try replace HE := Lib.hid (HE.out.trans hE)); (try replace r0 := r0.ext hE); (try replace r1 := r1.ext hE); (try replace r2 := r2.ext hE); (try replace r3 := r3.ext hE); (try replace r4 := r4.ext hE); (try replace r5 := r5.ext hE); (try replace r6 := r6.ext hE); clear hE; have h1 := zz1.row (anC P0)
  go_wp2_with (first | ((refine wpList_store_blk rfl 24 _ _ rfl rfl rfl zz1 (an_info _) (by simp [anC_size]) (anC_one _) ?_); clear zz1; generalize (w'.alloc (.cells #[.int .i64 0, .int .u64 0, .int .u64 0] 24)).setRow w'.heap.size (anC P0) = X at *) | (refine wpList_load_blk (by rfl) 24 _ rfl rfl h1 Tryd.underlying24 rfl (by kernel_rfl) ?_))
  refine (c1 _ (hTE _ HE.out)).mono ?_
  rintro e w1 ⟨rfl, hE⟩
  (try replace h1 := h1.ext hE); (try replace h2 := h2.ext hE); (try replace HE := Lib.hid (HE.out.trans hE)); (try replace r0 := r0.ext hE); (try replace r1 := r1.ext hE); (try replace r2 := r2.ext hE); (try replace r3 := r3.ext hE); (try replace r4 := r4.ext hE); (try replace r5 := r5.ext hE); (try replace r6 := r6.ext hE)
  clear hE c1 h1
  have zz1 : Blk (w1.alloc (.cells #[.int .i64 0, .int .u64 0, .int .u64 0] 24)) w1.heap.size 24 #[.int .i64 0, .int .u64 0, .int .u64 0] := Blk.new _ _ _; have hE := ((Ext.refl w1).alloc (.cells #[.int .i64 0, .int .u64 0, .int .u64 0] 24)).row (Nat.le_refl w1.heap.size) (anC P1); (try replace h1 := h1.ext hE); (try replace h2 := h2.ext hE); (try replace HE := Lib.hid (HE.out.trans hE)); (try replace r0 := r0.ext hE); (try replace r1 := r1.ext hE); (try replace r2 := r2.ext hE); (try replace r3 := r3.ext hE); (try replace r4 := r4.ext hE); (try replace r5 := r5.ext hE); (try replace r6 := r6.ext hE); clear hE; have h1 := zz1.row (anC P1)
  go_wp2_with (first | ((refine wpList_store_blk rfl 24 _ _ rfl rfl rfl zz1 (an_info _) (by simp [anC_size]) (anC_one _) ?_); clear zz1; generalize (w1.alloc (.cells #[.int .i64 0, .int .u64 0, .int .u64 0] 24)).setRow w1.heap.size (anC P1) = X at *) | (refine wpList_load_blk (by rfl) 24 _ rfl rfl h1 Tryd.underlying24 rfl (by kernel_rfl) ?_))
  refine (c2 _ (hTE _ HE.out)).mono ?_
  rintro e w2 ⟨rfl, hE⟩
  (try replace h1 := h1.ext hE); (try replace h2 := h2.ext hE); (try replace HE := Lib.hid (HE.out.trans hE)); (try replace r0 := r0.ext hE); (try replace r1 := r1.ext hE); (try replace r2 := r2.ext hE); (try replace r3 := r3.ext hE); (try replace r4 := r4.ext hE); (try replace r5 := r5.ext hE); (try replace r6 := r6.ext hE)
  clear hE c2 h1
  have zz1 : Blk (w2.alloc (.cells #[.int .i64 0, .int .u64 0, .int .u64 0] 24)) w2.heap.size 24 #[.int .i64 0, .int .u64 0, .int .u64 0] := Blk.new _ _ _; have hE := ((Ext.refl w2).alloc (.cells #[.int .i64 0, .int .u64 0, .int .u64 0] 24)).row (Nat.le_refl w2.heap.size) (anC P2); (try replace h1 := h1.ext hE); (try replace h2 := h2.ext hE); (try replace HE := Lib.hid (HE.out.trans hE)); (try replace r0 := r0.ext hE); (try replace r1 := r1.ext hE); (try replace r2 := r2.ext hE); (try replace r3 := r3.ext hE); (try replace r4 := r4.ext hE); (try replace r5 := r5.ext hE); (try replace r6 := r6.ext hE); clear hE; have h1 := zz1.row (anC P2)
  go_wp2_with (first | ((refine wpList_store_blk rfl 24 _ _ rfl rfl rfl zz1 (an_info _) (by simp [anC_size]) (anC_one _) ?_); clear zz1; generalize (w2.alloc (.cells #[.int .i64 0, .int .u64 0, .int .u64 0] 24)).setRow w2.heap.size (anC P2) = X at *) | (refine wpList_load_blk (by rfl) 24 _ rfl rfl h1 Tryd.underlying24 rfl (by kernel_rfl) ?_))
  refine (c3 _ (hTE _ HE.out)).mono ?_
  rintro e w3 ⟨rfl, hE⟩
  (try replace h1 := h1.ext hE); (try replace h2 := h2.ext hE); (try replace HE := Lib.hid (HE.out.trans hE)); (try replace r0 := r0.ext hE); (try replace r1 := r1.ext hE); (try replace r2 := r2.ext hE); (try replace r3 := r3.ext hE); (try replace r4 := r4.ext hE); (try replace r5 := r5.ext hE); (try replace r6 := r6.ext hE)
  clear hE c3
  have zz1 : Blk (w3.alloc (.cells #[.int .i64 0, .int .u64 0, .int .u64 0] 24)) w3.heap.size 24 #[.int .i64 0, .int .u64 0, .int .u64 0] := Blk.new _ _ _; have hE := ((Ext.refl w3).alloc (.cells #[.int .i64 0, .int .u64 0, .int .u64 0] 24)).row (Nat.le_refl w3.heap.size) (anC P2); (try replace h1 := h1.ext hE); (try replace h2 := h2.ext hE); (try replace HE := Lib.hid (HE.out.trans hE)); (try replace r0 := r0.ext hE); (try replace r1 := r1.ext hE); (try replace r2 := r2.ext hE); (try replace r3 := r3.ext hE); (try replace r4 := r4.ext hE); (try replace r5 := r5.ext hE); (try replace r6 := r6.ext hE); clear hE; have h2 := zz1.row (anC P2)
  go_wp2_with (first | ((refine wpList_store_blk rfl 24 _ _ rfl rfl rfl zz1 (an_info _) (by simp [anC_size]) (anC_one _) ?_); clear zz1; generalize (w3.alloc (.cells #[.int .i64 0, .int .u64 0, .int .u64 0] 24)).setRow w3.heap.size (anC P2) = X at *) | (refine wpList_load_blk (by rfl) 24 _ rfl rfl h1 Tryd.underlying24 rfl (by kernel_rfl) ?_))
  refine (c4 _ (hTE _ HE.out)).mono ?_
  rintro e w4 ⟨rfl, hE⟩
  (try replace h1 := h1.ext hE); (try replace h2 := h2.ext hE); (try replace HE := Lib.hid (HE.out.trans hE)); (try replace r0 := r0.ext hE); (try replace r1 := r1.ext hE); (try replace r2 := r2.ext hE); (try replace r3 := r3.ext hE); (try replace r4 := r4.ext hE); (try replace r5 := r5.ext hE); (try replace r6 := r6.ext hE)
  clear hE c4 h2 h1
  have zz1 : Blk (w4.alloc (.cells #[.int .i64 0, .int .u64 0, .int .u64 0] 24)) w4.heap.size 24 #[.int .i64 0, .int .u64 0, .int .u64 0] := Blk.new _ _ _; have hE := ((Ext.refl w4).alloc (.cells #[.int .i64 0, .int .u64 0, .int .u64 0] 24)).row (Nat.le_refl w4.heap.size) (anC P3); (try replace h1 := h1.ext hE); (try replace h2 := h2.ext hE); (try replace HE := Lib.hid (HE.out.trans hE)); (try replace r0 := r0.ext hE); (try replace r1 := r1.ext hE); (try replace r2 := r2.ext hE); (try replace r3 := r3.ext hE); (try replace r4 := r4.ext hE); (try replace r5 := r5.ext hE); (try replace r6 := r6.ext hE); clear hE; have h1 := zz1.row (anC P3)
  go_wp2_with (first | ((refine wpList_store_blk rfl 24 _ _ rfl rfl rfl zz1 (an_info _) (by simp [anC_size]) (anC_one _) ?_); clear zz1; generalize (w4.alloc (.cells #[.int .i64 0, .int .u64 0, .int .u64 0] 24)).setRow w4.heap.size (anC P3) = X at *) | (refine wpList_load_blk (by rfl) 24 _ rfl rfl h1 Tryd.underlying24 rfl (by kernel_rfl) ?_))
  refine (c5 _ (hTE _ HE.out)).mono ?_
  rintro e w5 ⟨rfl, hE⟩
  (try replace h1 := h1.ext hE); (try replace h2 := h2.ext hE); (try replace HE := Lib.hid (HE.out.trans hE)); (try replace r0 := r0.ext hE); (try replace r1 := r1.ext hE); (try replace r2 := r2.ext hE); (try replace r3 := r3.ext hE); (try replace r4 := r4.ext hE); (try replace r5 := r5.ext hE); (try replace r6 := r6.ext hE)
  clear hE c5
  have zz1 : Blk (w5.alloc (.cells #[.int .i64 0, .int .u64 0, .int .u64 0] 24)) w5.heap.size 24 #[.int .i64 0, .int .u64 0, .int .u64 0] := Blk.new _ _ _; have hE := ((Ext.refl w5).alloc (.cells #[.int .i64 0, .int .u64 0, .int .u64 0] 24)).row (Nat.le_refl w5.heap.size) (anC P3); (try replace h1 := h1.ext hE); (try replace h2 := h2.ext hE); (try replace HE := Lib.hid (HE.out.trans hE)); (try replace r0 := r0.ext hE); (try replace r1 := r1.ext hE); (try replace r2 := r2.ext hE); (try replace r3 := r3.ext hE); (try replace r4 := r4.ext hE); (try replace r5 := r5.ext hE); (try replace r6 := r6.ext hE); clear hE; have h2 := zz1.row (anC P3)
  go_wp2_with (first | ((refine wpList_store_blk rfl 24 _ _ rfl rfl rfl zz1 (an_info _) (by simp [anC_size]) (anC_one _) ?_); clear zz1; generalize (w5.alloc (.cells #[.int .i64 0, .int .u64 0, .int .u64 0] 24)).setRow w5.heap.size (anC P3) = X at *) | (refine wpList_load_blk (by rfl) 24 _ rfl rfl h1 Tryd.underlying24 rfl (by kernel_rfl) ?_))
  refine (c6 _ (hTE _ HE.out)).mono ?_
  rintro e w6 ⟨rfl, hE⟩
  (try replace h1 := h1.ext hE); (try replace h2 := h2.ext hE); (try replace HE := Lib.hid (HE.out.trans hE)); (try replace r0 := r0.ext hE); (try replace r1 := r1.ext hE); (try replace r2 := r2.ext hE); (try replace r3 := r3.ext hE); (try replace r4 := r4.ext hE); (try replace r5 := r5.ext hE); (try replace r6 := r6.ext hE)
  clear hE c6 h2
  have zz1 : Blk (w6.alloc (.cells #[.int .i64 0, .int .u64 0, .int .u64 0] 24)) w6.heap.size 24 #[.int .i64 0, .int .u64 0, .int .u64 0] := Blk.new _ _ _; have hE := ((Ext.refl w6).alloc (.cells #[.int .i64 0, .int .u64 0, .int .u64 0] 24)).row (Nat.le_refl w6.heap.size) (anC P2); (try replace h1 := h1.ext hE); (try replace h2 := h2.ext hE); (try replace HE := Lib.hid (HE.out.trans hE)); (try replace r0 := r0.ext hE); (try replace r1 := r1.ext hE); (try replace r2 := r2.ext hE); (try replace r3 := r3.ext hE); (try replace r4 := r4.ext hE); (try replace r5 := r5.ext hE); (try replace r6 := r6.ext hE); clear hE; have h2 := zz1.row (anC P2)
  go_wp2_with (first | ((refine wpList_store_blk rfl 24 _ _ rfl rfl rfl zz1 (an_info _) (by simp [anC_size]) (anC_one _) ?_); clear zz1; generalize (w6.alloc (.cells #[.int .i64 0, .int .u64 0, .int .u64 0] 24)).setRow w6.heap.size (anC P2) = X at *) | fail)
  refine (c7 _ (hTE _ HE.out)).mono ?_
  rintro e w7 ⟨rfl, hE⟩
  (try replace h1 := h1.ext hE); (try replace h2 := h2.ext hE); (try replace HE := Lib.hid (HE.out.trans hE)); (try replace r0 := r0.ext hE); (try replace r1 := r1.ext hE); (try replace r2 := r2.ext hE); (try replace r3 := r3.ext hE); (try replace r4 := r4.ext hE); (try replace r5 := r5.ext hE); (try replace r6 := r6.ext hE)
  clear hE c7 h2
  have zz1 : Blk (w7.alloc (.cells #[.int .i64 0, .int .u64 0, .int .u64 0] 24)) w7.heap.size 24 #[.int .i64 0, .int .u64 0, .int .u64 0] := Blk.new _ _ _; have hE := ((Ext.refl w7).alloc (.cells #[.int .i64 0, .int .u64 0, .int .u64 0] 24)).row (Nat.le_refl w7.heap.size) (anC P4); (try replace h1 := h1.ext hE); (try replace h2 := h2.ext hE); (try replace HE := Lib.hid (HE.out.trans hE)); (try replace r0 := r0.ext hE); (try replace r1 := r1.ext hE); (try replace r2 := r2.ext hE); (try replace r3 := r3.ext hE); (try replace r4 := r4.ext hE); (try replace r5 := r5.ext hE); (try replace r6 := r6.ext hE); clear hE; have h2 := zz1.row (anC P4)
  go_wp2_with (first | ((refine wpList_store_blk rfl 24 _ _ rfl rfl rfl zz1 (an_info _) (by simp [anC_size]) (anC_one _) ?_); clear zz1; generalize (w7.alloc (.cells #[.int .i64 0, .int .u64 0, .int .u64 0] 24)).setRow w7.heap.size (anC P4) = X at *) | (refine wpList_load_blk (by rfl) 24 _ rfl rfl h1 Tryd.underlying24 rfl (by kernel_rfl) ?_))
  refine (c8 _ (hTE _ HE.out)).mono ?_
  rintro e w8 ⟨rfl, hE⟩
  (try replace h1 := h1.ext hE); (try replace h2 := h2.ext hE); (try replace HE := Lib.hid (HE.out.trans hE)); (try replace r0 := r0.ext hE); (try replace r1 := r1.ext hE); (try replace r2 := r2.ext hE); (try replace r3 := r3.ext hE); (try replace r4 := r4.ext hE); (try replace r5 := r5.ext hE); (try replace r6 := r6.ext hE)
  clear hE c8 h2
  go_wp2_with (refine wpList_load_blk (by rfl) 24 _ rfl rfl h1 Tryd.underlying24 rfl (by kernel_rfl) ?_)
  refine (c9 _ (hTE _ HE.out)).mono ?_
  rintro e w9 ⟨rfl, hE⟩
  (try replace h1 := h1.ext hE); (try replace h2 := h2.ext hE); (try replace HE := Lib.hid (HE.out.trans hE)); (try replace r0 := r0.ext hE); (try replace r1 := r1.ext hE); (try replace r2 := r2.ext hE); (try replace r3 := r3.ext hE); (try replace r4 := r4.ext hE); (try replace r5 := r5.ext hE); (try replace r6 := r6.ext hE)
  clear hE c9 h1
  go_wp2_with (refine wpList_build_as (by rfl) rfl (hbz) ?_)
  refine (cz _ (hTE _ HE.out)).mono ?_
  rintro e wz ⟨rfl, hE⟩
  replace HE := Lib.hid (HE.out.trans hE)
  clear hE cz
  go_wp2
  go_ret
  exact ⟨rfl, HE.out⟩
end Go.Proofs.YtngioemeplllhaaDoor
