/- Layer 14: awake. -/
import Derived.Test.YtdbflmceomnmlaaDoorCtlba
import Derived.Test.YtdbflmceomnmlaaDoorCtlbd
import Derived.Test.YtdbflmceomnmlaaDoorLaw14c
namespace Go.Proofs.YtdbflmceomnmlaaDoor
open Go.ChangeShapes Go.WideShapes Go.ChangeAt Go.RowKit
set_option linter.unusedVariables false
set_option linter.unusedSimpArgs false
set_option maxRecDepth 10000

def E4 : En := ⟨true, 0, false, 0, 4, 0, ⟨false, false, false, false⟩, false⟩
def E6 : En := ⟨true, 1, false, 0, 6, 0, ⟨false, false, false, false⟩, false⟩
def K0 : List St := List.replicate 2 s0
def K1 : List St := putT E4 (-1) K0
def K2 : List St := putT E6 (-1) K1
def K3 : List St := dropT K2 0 0
theorem K0_r : rightT K0 = true := rt_rep (by decide)
theorem E4_may : mayE E4 = true := by kernel_rfl
theorem E6_may : mayE E6 = true := by kernel_rfl
theorem E4_ok : E4.ok := by unfold E4 En.ok Pm.ok; decide
theorem E6_ok : E6.ok := by unfold E6 En.ok Pm.ok; decide
theorem K1_r : rightT K1 = true := rt_put K0_r E4_may _
theorem K2_r : rightT K2 = true := rt_put K1_r E6_may _
theorem K0_len : K0.length = 2 := by unfold K0; simp
theorem K1_len : K1.length = 2 := by unfold K1; rw [putT_len, K0_len]
theorem K2_len : K2.length = 2 := by unfold K2; rw [putT_len, K1_len]
theorem K3_len : K3.length = 2 := by unfold K3 dropT; rw [List.length_set, K2_len]
theorem K3_r : rightT K3 = true := rt_drop K2_r (by rw [K2_len]; decide) (by decide)
theorem K2_ok : ∀ i, i < K2.length → (sT K2 i).ok := ok_put K1_r E6_may (ok_put K0_r E4_may (ok_rep 2) E4_ok _) E6_ok _
theorem K2_f1 : okT ((1 : Nat) : Int) ((24577 : Nat) : Int) K2 = true := by kernel_rfl
theorem K2_f2 : okT ((1 : Nat) : Int) ((16384 : Nat) : Int) K2 = false := by kernel_rfl
theorem K2_f3 : seT ((1 : Nat) : Int) ((24577 : Nat) : Int) K2 = 0 := by kernel_rfl
theorem K2_f4 : wyT ((1 : Nat) : Int) ((24577 : Nat) : Int) K2 = 1 := by kernel_rfl
theorem K2_f5 : enT ((1 : Nat) : Int) ((24577 : Nat) : Int) K2 = E6 := by kernel_rfl
theorem K3_all : (allT K3).length = 1 := by kernel_rfl
theorem nil_all : (allT (List.replicate 0 s0)).length = 0 := by kernel_rfl
theorem K17 : rightT (List.replicate 17 s0) = false := rt_long (by simp)
theorem E4_build : Tryd.prog.built 29 [(0, .bool true), (4, .int .u64 4)] = some (enC E4) := by unfold E4; rw [enC_def, pmC_def]; kernel_rfl
theorem E6_build : Tryd.prog.built 29 [(0, .bool true), (4, .int .u64 6), (1, .int .u64 1)] = some (enC E6) := by unfold E6; rw [enC_def, pmC_def]; kernel_rfl
theorem va1 : vaB 24577 = true := by kernel_rfl
theorem va2 : vaB 16384 = true := by kernel_rfl
attribute [irreducible] E4 E6 K0 K1 K2 K3
theorem own_sl {w : World} {b : Nat} {e : TypeId} {size : Nat} {v : Value} {n : Nat} {xs : List Value} (h : w.ownsRow b e size v n xs) : ∃ A c, v = .slice A n c := by
  rcases h.2 with ⟨rfl, rfl⟩ | ⟨g, cap, cur, rfl, _⟩
  · exact ⟨_, _, rfl⟩
  · exact ⟨_, _, rfl⟩
set_option maxRecDepth 100000 in
set_option maxHeartbeats 4000000 in
theorem awake14_c (w : World) (hT : Lays w) : Calls Tryd.prog 9 #[] w fun r w' => r = .returned (.bool true) ∧ Ext w w' := by
  have HE := Lib.hid (Ext.refl w)
  have cn2 := new14_c 2 (by decide)
  have cn17 := new14_no 17 (by decide)
  have cn0 := new14_c 0 (by decide)
  have cp1 := fun A c w h k => put14p_c A K0 c (by rw [K0_len]; decide) (by rw [K0_len]; decide) E4 (-1) (may_lv E4_may).1 (may_lv E4_may).2 (by have := (may_lt E4_may).1; omega) (right_t (rt_s K0_r (ix_lt (by rw [K0_len]; decide) _ _))) w h k
  have cp2 := fun A c w h k => put14p_c A K1 c (by rw [K1_len]; decide) (by rw [K1_len]; decide) E6 (-1) (may_lv E6_may).1 (may_lv E6_may).2 (by have := (may_lt E6_may).1; omega) (right_t (rt_s K1_r (ix_lt (by rw [K1_len]; decide) _ _))) w h k
  have cf1 : ∀ A c w, RowV KS w A K2 c → Lays w → Calls Tryd.prog 16 #[.agg #[.slice A 2 c], .int .u64 1, .int .u64 24577] w fun r w' => r = .returned (.tuple #[.agg (enC E6), .int .i64 0, .int .i64 1, .bool true]) ∧ Ext w w' := fun A c w h k => by
    have h := find14_c A K2 c (by rw [K2_len]; decide) K2_r 1 24577 (by decide) va1 (by decide) w h k
    unfold FoundT at h
    rw [K2_f1, K2_f3, K2_f4, K2_f5, K2_len] at h
    exact h
  have cf2 : ∃ y1 y2 y3, ∀ A c w, RowV KS w A K2 c → Lays w → Calls Tryd.prog 16 #[.agg #[.slice A 2 c], .int .u64 1, .int .u64 16384] w fun r w' => r = .returned (.tuple #[.agg (enC y1), .int .i64 y2, .int .i64 y3, .bool false]) ∧ Ext w w' := ⟨_, _, _, fun A c w h k => by
    have h := find14_c A K2 c (by rw [K2_len]; decide) K2_r 1 16384 (by decide) va2 (by decide) w h k
    unfold FoundT at h
    rw [K2_f2, K2_len] at h
    exact h⟩
  obtain ⟨y1, y2, y3, cf2⟩ := cf2
  have cd1 := fun A c w h k => drop14p_c A K2 c (by rw [K2_len]; decide) 0 0 (by rw [K2_len]; decide) (by decide) w h k
  have cd2 := fun A c w => drop14p_no A 2 c 2 0 (by decide) w
  have ca1 := fun A c w h => all14_c A K3 c (by rw [K3_len]; decide) w h
  have cpn := fun A c w => put14p_nil A c E6 (-1) w
  have ca0 := fun A c w h => all14_c A (List.replicate 0 s0) c (by decide) w h
  have cr2 := fun A c w h k => right14_c A K2 c K2_ok w h k
  have cr17 := fun A c w h k => right14_c A (List.replicate 17 s0) c (ok_rep 17) w h k
  have hmk : ∀ W : World, (Instr.makeSlice 22 (.int .i64 17) (.int .i64 17)).run Tryd.prog W = .ok (.slice (some ⟨W.heap.size, 0, none⟩) 17 17) (W.alloc (.cells (zsC 17) 52)) := make_zs 17 (by decide)
  have hz17 := zs_row 17 (by decide)
  rw [show putT E4 (-1) K0 = K1 from (by unfold K1; rfl)] at cp1
  rw [show putT E6 (-1) K1 = K2 from (by unfold K2; rfl)] at cp2
  rw [show dropT K2 0 0 = K3 from (by unfold K3; rfl)] at cd1
  rw [show List.replicate 2 s0 = K0 from (by unfold K0; rfl)] at cn2
  unfold MadeT at cp1 cp2
  unfold MadeTI at cd1
  unfold MadeO at ca1 ca0
  rw [K3_all] at ca1
  rw [nil_all] at ca0
  rw [K17] at cr17
  rw [K2_r] at cr2
  rw [K0_len, K1_len] at cp1
  rw [K1_len, K2_len] at cp2
  rw [K2_len] at cr2
  rw [K2_len, K3_len] at cd1
  rw [K3_len] at ca1
  rw [List.length_replicate] at ca0 cr17
  generalize zsC 17 = zs at *
  generalize List.replicate 17 s0 = K17 at *
  generalize List.replicate 0 s0 = Kn at *
  go_enter Tryd.func9, Tryd.ntmps9
  go_wp2_with (fail); refine (cn2 _).mono ?_; rintro e w' ⟨A0, c0, rfl, r0, -, hE⟩; (try replace h1 := h1.ext hE); (try replace h2 := h2.ext hE); (try replace h3 := h3.ext hE); (try replace h4 := h4.ext hE); (try replace h5 := h5.ext hE); (try replace h6 := h6.ext hE); (try replace h7 := h7.ext hE); (try replace h8 := h8.ext hE); (try replace h9 := h9.ext hE); (try replace HE := Lib.hid (HE.out.trans hE)); (try replace r0 := r0.ext hE); (try replace r1 := r1.ext hE); (try replace r2 := r2.ext hE); (try replace r3 := r3.ext hE); (try replace r4 := r4.ext hE); (try replace r5 := r5.ext hE); (try replace r6 := r6.ext hE); clear hE
  have hE := (Ext.refl w').alloc (.cells (#[.slice A0 2 c0]) 24); (try replace h1 := h1.ext hE); (try replace h2 := h2.ext hE); (try replace h3 := h3.ext hE); (try replace h4 := h4.ext hE); (try replace h5 := h5.ext hE); (try replace h6 := h6.ext hE); (try replace h7 := h7.ext hE); (try replace h8 := h8.ext hE); (try replace h9 := h9.ext hE); (try replace HE := Lib.hid (HE.out.trans hE)); (try replace r0 := r0.ext hE); (try replace r1 := r1.ext hE); (try replace r2 := r2.ext hE); (try replace r3 := r3.ext hE); (try replace r4 := r4.ext hE); (try replace r5 := r5.ext hE); (try replace r6 := r6.ext hE); clear hE; have h1 := Blk.new w' 24 (#[.slice A0 2 c0]); go_upto_region 2 with (fail); generalize w'.heap.size = g1 at *; generalize w'.alloc (.cells (#[.slice A0 2 c0]) 24) = W1 at *
  go_wp2_with (fail); refine (cn17 _).mono ?_; rintro e w' ⟨rfl, hE⟩; (try replace h1 := h1.ext hE); (try replace h2 := h2.ext hE); (try replace h3 := h3.ext hE); (try replace h4 := h4.ext hE); (try replace h5 := h5.ext hE); (try replace h6 := h6.ext hE); (try replace h7 := h7.ext hE); (try replace h8 := h8.ext hE); (try replace h9 := h9.ext hE); (try replace HE := Lib.hid (HE.out.trans hE)); (try replace r0 := r0.ext hE); (try replace r1 := r1.ext hE); (try replace r2 := r2.ext hE); (try replace r3 := r3.ext hE); (try replace r4 := r4.ext hE); (try replace r5 := r5.ext hE); (try replace r6 := r6.ext hE); clear hE
  have hE := (Ext.refl w').alloc (.cells (#[.slice none 0 0]) 24); (try replace h1 := h1.ext hE); (try replace h2 := h2.ext hE); (try replace h3 := h3.ext hE); (try replace h4 := h4.ext hE); (try replace h5 := h5.ext hE); (try replace h6 := h6.ext hE); (try replace h7 := h7.ext hE); (try replace h8 := h8.ext hE); (try replace h9 := h9.ext hE); (try replace HE := Lib.hid (HE.out.trans hE)); (try replace r0 := r0.ext hE); (try replace r1 := r1.ext hE); (try replace r2 := r2.ext hE); (try replace r3 := r3.ext hE); (try replace r4 := r4.ext hE); (try replace r5 := r5.ext hE); (try replace r6 := r6.ext hE); clear hE; have h2 := Blk.new w' 24 (#[.slice none 0 0]); go_upto_region 3 with (fail); generalize w'.heap.size = g2 at *; generalize w'.alloc (.cells (#[.slice none 0 0]) 24) = W2 at *
  go_wp2_with ((first | (refine wpList_load_blk (by rfl) 24 _ rfl rfl (by first | exact h1 | exact h2 | exact h3 | exact h4 | exact h5 | exact h6 | exact h7 | exact h8 | exact h9) Tryd.underlying24 rfl (by kernel_rfl) ?_) | (refine wpList_build_as (by rfl) rfl (E4_build) ?_))); refine (cp1 _ _ _ r0 (hT.ext HE.out)).mono ?_; rintro e w' ⟨A1, c1, rfl, r1, -, hE⟩; (try replace h1 := h1.ext hE); (try replace h2 := h2.ext hE); (try replace h3 := h3.ext hE); (try replace h4 := h4.ext hE); (try replace h5 := h5.ext hE); (try replace h6 := h6.ext hE); (try replace h7 := h7.ext hE); (try replace h8 := h8.ext hE); (try replace h9 := h9.ext hE); (try replace HE := Lib.hid (HE.out.trans hE)); (try replace r0 := r0.ext hE); (try replace r1 := r1.ext hE); (try replace r2 := r2.ext hE); (try replace r3 := r3.ext hE); (try replace r4 := r4.ext hE); (try replace r5 := r5.ext hE); (try replace r6 := r6.ext hE); clear hE
  have hE := (Ext.refl w').alloc (.cells (#[.slice A1 2 c1]) 24); (try replace h1 := h1.ext hE); (try replace h2 := h2.ext hE); (try replace h3 := h3.ext hE); (try replace h4 := h4.ext hE); (try replace h5 := h5.ext hE); (try replace h6 := h6.ext hE); (try replace h7 := h7.ext hE); (try replace h8 := h8.ext hE); (try replace h9 := h9.ext hE); (try replace HE := Lib.hid (HE.out.trans hE)); (try replace r0 := r0.ext hE); (try replace r1 := r1.ext hE); (try replace r2 := r2.ext hE); (try replace r3 := r3.ext hE); (try replace r4 := r4.ext hE); (try replace r5 := r5.ext hE); (try replace r6 := r6.ext hE); clear hE; have h3 := Blk.new w' 24 (#[.slice A1 2 c1]); go_upto_region 4 with (fail); generalize w'.heap.size = g3 at *; generalize w'.alloc (.cells (#[.slice A1 2 c1]) 24) = W3 at *
  go_wp2_with ((first | (refine wpList_load_blk (by rfl) 24 _ rfl rfl (by first | exact h1 | exact h2 | exact h3 | exact h4 | exact h5 | exact h6 | exact h7 | exact h8 | exact h9) Tryd.underlying24 rfl (by kernel_rfl) ?_) | (refine wpList_build_as (by rfl) rfl (E6_build) ?_))); refine (cp2 _ _ _ r1 (hT.ext HE.out)).mono ?_; rintro e w' ⟨A2, c2, rfl, r2, -, hE⟩; (try replace h1 := h1.ext hE); (try replace h2 := h2.ext hE); (try replace h3 := h3.ext hE); (try replace h4 := h4.ext hE); (try replace h5 := h5.ext hE); (try replace h6 := h6.ext hE); (try replace h7 := h7.ext hE); (try replace h8 := h8.ext hE); (try replace h9 := h9.ext hE); (try replace HE := Lib.hid (HE.out.trans hE)); (try replace r0 := r0.ext hE); (try replace r1 := r1.ext hE); (try replace r2 := r2.ext hE); (try replace r3 := r3.ext hE); (try replace r4 := r4.ext hE); (try replace r5 := r5.ext hE); (try replace r6 := r6.ext hE); clear hE
  have hE := (Ext.refl w').alloc (.cells (#[.slice A2 2 c2]) 24); (try replace h1 := h1.ext hE); (try replace h2 := h2.ext hE); (try replace h3 := h3.ext hE); (try replace h4 := h4.ext hE); (try replace h5 := h5.ext hE); (try replace h6 := h6.ext hE); (try replace h7 := h7.ext hE); (try replace h8 := h8.ext hE); (try replace h9 := h9.ext hE); (try replace HE := Lib.hid (HE.out.trans hE)); (try replace r0 := r0.ext hE); (try replace r1 := r1.ext hE); (try replace r2 := r2.ext hE); (try replace r3 := r3.ext hE); (try replace r4 := r4.ext hE); (try replace r5 := r5.ext hE); (try replace r6 := r6.ext hE); clear hE; have h4 := Blk.new w' 24 (#[.slice A2 2 c2]); go_upto_region 5 with (fail); generalize w'.heap.size = g4 at *; generalize w'.alloc (.cells (#[.slice A2 2 c2]) 24) = W4 at *
  go_wp2_with ((refine wpList_load_blk (by rfl) 24 _ rfl rfl (by first | exact h1 | exact h2 | exact h3 | exact h4 | exact h5 | exact h6 | exact h7 | exact h8 | exact h9) Tryd.underlying24 rfl (by kernel_rfl) ?_)); refine (cf1 _ _ _ r2 (hT.ext HE.out)).mono ?_; rintro e w' ⟨rfl, hE⟩; (try replace h1 := h1.ext hE); (try replace h2 := h2.ext hE); (try replace h3 := h3.ext hE); (try replace h4 := h4.ext hE); (try replace h5 := h5.ext hE); (try replace h6 := h6.ext hE); (try replace h7 := h7.ext hE); (try replace h8 := h8.ext hE); (try replace h9 := h9.ext hE); (try replace HE := Lib.hid (HE.out.trans hE)); (try replace r0 := r0.ext hE); (try replace r1 := r1.ext hE); (try replace r2 := r2.ext hE); (try replace r3 := r3.ext hE); (try replace r4 := r4.ext hE); (try replace r5 := r5.ext hE); (try replace r6 := r6.ext hE); clear hE
  have hE := (Ext.refl w').alloc (.cells (enC E6) 29); (try replace h1 := h1.ext hE); (try replace h2 := h2.ext hE); (try replace h3 := h3.ext hE); (try replace h4 := h4.ext hE); (try replace h5 := h5.ext hE); (try replace h6 := h6.ext hE); (try replace h7 := h7.ext hE); (try replace h8 := h8.ext hE); (try replace h9 := h9.ext hE); (try replace HE := Lib.hid (HE.out.trans hE)); (try replace r0 := r0.ext hE); (try replace r1 := r1.ext hE); (try replace r2 := r2.ext hE); (try replace r3 := r3.ext hE); (try replace r4 := r4.ext hE); (try replace r5 := r5.ext hE); (try replace r6 := r6.ext hE); clear hE; have h5 := Blk.new w' 29 (enC E6); go_upto_region 6 with ((refine wpList_store_new rfl 29 _ _ rfl (enC _) _ _ rfl rfl (en_info _) (by simp [enC_size]) (enC_one _) ?_)); generalize w'.heap.size = g5 at *; generalize w'.alloc (.cells (enC E6) 29) = W5 at *
  go_wp2_with ((refine wpList_load_blk (by rfl) 24 _ rfl rfl (by first | exact h1 | exact h2 | exact h3 | exact h4 | exact h5 | exact h6 | exact h7 | exact h8 | exact h9) Tryd.underlying24 rfl (by kernel_rfl) ?_)); refine (cf2 _ _ _ r2 (hT.ext HE.out)).mono ?_; rintro e w' ⟨rfl, hE⟩; (try replace h1 := h1.ext hE); (try replace h2 := h2.ext hE); (try replace h3 := h3.ext hE); (try replace h4 := h4.ext hE); (try replace h5 := h5.ext hE); (try replace h6 := h6.ext hE); (try replace h7 := h7.ext hE); (try replace h8 := h8.ext hE); (try replace h9 := h9.ext hE); (try replace HE := Lib.hid (HE.out.trans hE)); (try replace r0 := r0.ext hE); (try replace r1 := r1.ext hE); (try replace r2 := r2.ext hE); (try replace r3 := r3.ext hE); (try replace r4 := r4.ext hE); (try replace r5 := r5.ext hE); (try replace r6 := r6.ext hE); clear hE
  have hE := (Ext.refl w').alloc (.cells (enC y1) 29); (try replace h1 := h1.ext hE); (try replace h2 := h2.ext hE); (try replace h3 := h3.ext hE); (try replace h4 := h4.ext hE); (try replace h5 := h5.ext hE); (try replace h6 := h6.ext hE); (try replace h7 := h7.ext hE); (try replace h8 := h8.ext hE); (try replace h9 := h9.ext hE); (try replace HE := Lib.hid (HE.out.trans hE)); (try replace r0 := r0.ext hE); (try replace r1 := r1.ext hE); (try replace r2 := r2.ext hE); (try replace r3 := r3.ext hE); (try replace r4 := r4.ext hE); (try replace r5 := r5.ext hE); (try replace r6 := r6.ext hE); clear hE; have h6 := Blk.new w' 29 (enC y1); go_upto_region 7 with ((refine wpList_store_new rfl 29 _ _ rfl (enC _) _ _ rfl rfl (en_info _) (by simp [enC_size]) (enC_one _) ?_)); generalize w'.heap.size = g6 at *; generalize w'.alloc (.cells (enC y1) 29) = W6 at *
  go_wp2_with ((refine wpList_load_blk (by rfl) 24 _ rfl rfl (by first | exact h1 | exact h2 | exact h3 | exact h4 | exact h5 | exact h6 | exact h7 | exact h8 | exact h9) Tryd.underlying24 rfl (by kernel_rfl) ?_)); refine (cd1 _ _ _ r2 (hT.ext HE.out)).mono ?_; rintro e w' ⟨A3, c3, rfl, r3, -, hE⟩; (try replace h1 := h1.ext hE); (try replace h2 := h2.ext hE); (try replace h3 := h3.ext hE); (try replace h4 := h4.ext hE); (try replace h5 := h5.ext hE); (try replace h6 := h6.ext hE); (try replace h7 := h7.ext hE); (try replace h8 := h8.ext hE); (try replace h9 := h9.ext hE); (try replace HE := Lib.hid (HE.out.trans hE)); (try replace r0 := r0.ext hE); (try replace r1 := r1.ext hE); (try replace r2 := r2.ext hE); (try replace r3 := r3.ext hE); (try replace r4 := r4.ext hE); (try replace r5 := r5.ext hE); (try replace r6 := r6.ext hE); clear hE
  have hE := (Ext.refl w').alloc (.cells (#[.slice A3 2 c3]) 24); (try replace h1 := h1.ext hE); (try replace h2 := h2.ext hE); (try replace h3 := h3.ext hE); (try replace h4 := h4.ext hE); (try replace h5 := h5.ext hE); (try replace h6 := h6.ext hE); (try replace h7 := h7.ext hE); (try replace h8 := h8.ext hE); (try replace h9 := h9.ext hE); (try replace HE := Lib.hid (HE.out.trans hE)); (try replace r0 := r0.ext hE); (try replace r1 := r1.ext hE); (try replace r2 := r2.ext hE); (try replace r3 := r3.ext hE); (try replace r4 := r4.ext hE); (try replace r5 := r5.ext hE); (try replace r6 := r6.ext hE); clear hE; have h7 := Blk.new w' 24 (#[.slice A3 2 c3]); go_upto_region 8 with (fail); generalize w'.heap.size = g7 at *; generalize w'.alloc (.cells (#[.slice A3 2 c3]) 24) = W7 at *
  go_wp2_with ((refine wpList_load_blk (by rfl) 24 _ rfl rfl (by first | exact h1 | exact h2 | exact h3 | exact h4 | exact h5 | exact h6 | exact h7 | exact h8 | exact h9) Tryd.underlying24 rfl (by kernel_rfl) ?_)); refine (cd2 _ _ _).mono ?_; rintro e w' ⟨rfl, hE⟩; (try replace h1 := h1.ext hE); (try replace h2 := h2.ext hE); (try replace h3 := h3.ext hE); (try replace h4 := h4.ext hE); (try replace h5 := h5.ext hE); (try replace h6 := h6.ext hE); (try replace h7 := h7.ext hE); (try replace h8 := h8.ext hE); (try replace h9 := h9.ext hE); (try replace HE := Lib.hid (HE.out.trans hE)); (try replace r0 := r0.ext hE); (try replace r1 := r1.ext hE); (try replace r2 := r2.ext hE); (try replace r3 := r3.ext hE); (try replace r4 := r4.ext hE); (try replace r5 := r5.ext hE); (try replace r6 := r6.ext hE); clear hE
  have hE := (Ext.refl w').alloc (.cells (#[.slice A2 2 c2]) 24); (try replace h1 := h1.ext hE); (try replace h2 := h2.ext hE); (try replace h3 := h3.ext hE); (try replace h4 := h4.ext hE); (try replace h5 := h5.ext hE); (try replace h6 := h6.ext hE); (try replace h7 := h7.ext hE); (try replace h8 := h8.ext hE); (try replace h9 := h9.ext hE); (try replace HE := Lib.hid (HE.out.trans hE)); (try replace r0 := r0.ext hE); (try replace r1 := r1.ext hE); (try replace r2 := r2.ext hE); (try replace r3 := r3.ext hE); (try replace r4 := r4.ext hE); (try replace r5 := r5.ext hE); (try replace r6 := r6.ext hE); clear hE; have h8 := Blk.new w' 24 (#[.slice A2 2 c2]); go_upto_region 9 with (fail); generalize w'.heap.size = g8 at *; generalize w'.alloc (.cells (#[.slice A2 2 c2]) 24) = W8 at *
  go_wp2_with (fail); refine (cn0 _).mono ?_; rintro e w' ⟨A4, c4, rfl, r4, -, hE⟩; (try replace h1 := h1.ext hE); (try replace h2 := h2.ext hE); (try replace h3 := h3.ext hE); (try replace h4 := h4.ext hE); (try replace h5 := h5.ext hE); (try replace h6 := h6.ext hE); (try replace h7 := h7.ext hE); (try replace h8 := h8.ext hE); (try replace h9 := h9.ext hE); (try replace HE := Lib.hid (HE.out.trans hE)); (try replace r0 := r0.ext hE); (try replace r1 := r1.ext hE); (try replace r2 := r2.ext hE); (try replace r3 := r3.ext hE); (try replace r4 := r4.ext hE); (try replace r5 := r5.ext hE); (try replace r6 := r6.ext hE); clear hE
  have h9 := Blk.new w' 24 #[.slice A4 0 c4]
  have hE := (Ext.refl w').alloc (.cells #[.slice A4 0 c4] 24)
  (try replace h1 := h1.ext hE); (try replace h2 := h2.ext hE); (try replace h3 := h3.ext hE); (try replace h4 := h4.ext hE); (try replace h5 := h5.ext hE); (try replace h6 := h6.ext hE); (try replace h7 := h7.ext hE); (try replace h8 := h8.ext hE); (try replace h9 := h9.ext hE); (try replace HE := Lib.hid (HE.out.trans hE)); (try replace r0 := r0.ext hE); (try replace r1 := r1.ext hE); (try replace r2 := r2.ext hE); (try replace r3 := r3.ext hE); (try replace r4 := r4.ext hE); (try replace r5 := r5.ext hE); (try replace r6 := r6.ext hE)
  clear hE
  have x1 : (w'.alloc (.cells #[.slice A4 0 c4] 24)).cell? ⟨g1, 0, none⟩ = some (.slice A0 2 c0) := (h1.cell 0).trans rfl
  have x5 : (w'.alloc (.cells #[.slice A4 0 c4] 24)).cell? ⟨g5, 4, none⟩ = some (.int .u64 6) := h5.en_vp.trans (by rw [show E6.vp = 6 by kernel_rfl]; rfl)
  go_wp2_with (refine wpList_load_blk (by rfl) 24 _ rfl rfl (by first | exact h1 | exact h2 | exact h3 | exact h4 | exact h5 | exact h6 | exact h7 | exact h8 | exact h9) Tryd.underlying24 rfl (by kernel_rfl) ?_)
  clear x1 x5
  generalize w'.heap.size = g9 at *
  generalize w'.alloc (.cells #[.slice A4 0 c4] 24) = W9 at *
  refine (ca1 _ _ _ r3).mono ?_
  rintro e w' ⟨v5, rfl, hown, hE⟩
  (try replace h1 := h1.ext hE); (try replace h2 := h2.ext hE); (try replace h3 := h3.ext hE); (try replace h4 := h4.ext hE); (try replace h5 := h5.ext hE); (try replace h6 := h6.ext hE); (try replace h7 := h7.ext hE); (try replace h8 := h8.ext hE); (try replace h9 := h9.ext hE); (try replace HE := Lib.hid (HE.out.trans hE)); (try replace r0 := r0.ext hE); (try replace r1 := r1.ext hE); (try replace r2 := r2.ext hE); (try replace r3 := r3.ext hE); (try replace r4 := r4.ext hE); (try replace r5 := r5.ext hE); (try replace r6 := r6.ext hE)
  clear hE
  obtain ⟨A5, c5, rfl⟩ := own_sl hown
  clear hown
  go_wp2_with ((first | (refine wpList_load_blk (by rfl) 24 _ rfl rfl (by first | exact h1 | exact h2 | exact h3 | exact h4 | exact h5 | exact h6 | exact h7 | exact h8 | exact h9) Tryd.underlying24 rfl (by kernel_rfl) ?_) | (refine wpList_load_blk (by rfl) 29 _ rfl rfl (by first | exact h1 | exact h2 | exact h3 | exact h4 | exact h5 | exact h6 | exact h7 | exact h8 | exact h9) Tryd.underlying29 rfl (by kernel_rfl) ?_))); refine (cpn _ _ _).mono ?_; rintro e w' ⟨rfl, hE⟩; (try replace h1 := h1.ext hE); (try replace h2 := h2.ext hE); (try replace h3 := h3.ext hE); (try replace h4 := h4.ext hE); (try replace h5 := h5.ext hE); (try replace h6 := h6.ext hE); (try replace h7 := h7.ext hE); (try replace h8 := h8.ext hE); (try replace h9 := h9.ext hE); (try replace HE := Lib.hid (HE.out.trans hE)); (try replace r0 := r0.ext hE); (try replace r1 := r1.ext hE); (try replace r2 := r2.ext hE); (try replace r3 := r3.ext hE); (try replace r4 := r4.ext hE); (try replace r5 := r5.ext hE); (try replace r6 := r6.ext hE); clear hE
  go_wp2_with (fail); refine (ca0 _ _ _ r4).mono ?_; rintro e w' ⟨v6, rfl, hown, hE⟩; (try replace h1 := h1.ext hE); (try replace h2 := h2.ext hE); (try replace h3 := h3.ext hE); (try replace h4 := h4.ext hE); (try replace h5 := h5.ext hE); (try replace h6 := h6.ext hE); (try replace h7 := h7.ext hE); (try replace h8 := h8.ext hE); (try replace h9 := h9.ext hE); (try replace HE := Lib.hid (HE.out.trans hE)); (try replace r0 := r0.ext hE); (try replace r1 := r1.ext hE); (try replace r2 := r2.ext hE); (try replace r3 := r3.ext hE); (try replace r4 := r4.ext hE); (try replace r5 := r5.ext hE); (try replace r6 := r6.ext hE); clear hE
  obtain ⟨A6, c6, rfl⟩ := own_sl hown
  clear hown
  go_wp2_with ((refine wpList_load_blk (by rfl) 24 _ rfl rfl (by first | exact h1 | exact h2 | exact h3 | exact h4 | exact h5 | exact h6 | exact h7 | exact h8 | exact h9) Tryd.underlying24 rfl (by kernel_rfl) ?_)); refine (cr2 _ _ _ r2 (hT.ext HE.out)).mono ?_; rintro e w' ⟨rfl, hE⟩; (try replace h1 := h1.ext hE); (try replace h2 := h2.ext hE); (try replace h3 := h3.ext hE); (try replace h4 := h4.ext hE); (try replace h5 := h5.ext hE); (try replace h6 := h6.ext hE); (try replace h7 := h7.ext hE); (try replace h8 := h8.ext hE); (try replace h9 := h9.ext hE); (try replace HE := Lib.hid (HE.out.trans hE)); (try replace r0 := r0.ext hE); (try replace r1 := r1.ext hE); (try replace r2 := r2.ext hE); (try replace r3 := r3.ext hE); (try replace r4 := r4.ext hE); (try replace r5 := r5.ext hE); (try replace r6 := r6.ext hE); clear hE
  go_wp2_with fail
  refine (cr17 _ _ _ (hz17 _) (hT.ext (HE.out.alloc _))).mono ?_
  rintro e w2 ⟨rfl, hE⟩
  replace HE := Lib.hid ((HE.out.alloc (.cells zs 52)).trans hE)
  go_wp2
  go_ret
  exact ⟨rfl, HE.out⟩
end Go.Proofs.YtdbflmceomnmlaaDoor
/- Package tlb: what the laws take of it (TlbC). -/
namespace Go.Proofs.YtdbflmceomnmlaaDoor
open Go.ChangeShapes Go.WideShapes Go.ChangeAt Go.RowKit
set_option linter.unusedVariables false

theorem tlbC14 : TlbC where
  new := fun n w hn _ => (new14_c n hn w).mono fun r w' ⟨A, c, h1, h2, _, h4⟩ => ⟨A, c, h1, h2, h4⟩
  awake := fun w hT => awake14_c w hT
  right := fun A L c w hok hr hT => right14_c A L c hok w hr hT
  find := fun A L c n a w hrt n1 a1 ha hr hT => by
    have h := find14_c A L c (by have := rt_len hrt; omega) hrt n a n1 ha a1 w hr hT
    unfold FoundT at h
    exact h
  put := fun A L c e v w hrt hm hv hr hT => by
    have hl := rt_len hrt
    rcases Nat.eq_zero_or_pos L.length with h0 | hp
    · obtain rfl := List.eq_nil_of_length_eq_zero h0
      exact (put14p_nil A c e v w).mono fun r w' ⟨h1, hE⟩ => ⟨A, c, by rw [putT_nil rfl]; exact h1, by rw [putT_nil rfl]; exact hr.ext hE, hE⟩
    · have k := may_v hm hv
      exact (put14p_c A L c (by omega) hp e v k.l0 k.l2 (by have := (may_lt hm).1; omega) (right_t (rt_s hrt (ix_lt hp _ _))) w hr hT).mono fun r w' ⟨A', c', h1, h2, _, h4⟩ => ⟨A', c', h1, h2, h4⟩
  all := fun A L c w hrt hr hT => (all14_c A L c (by have := rt_len hrt; omega) w hr).mono fun r w' ⟨v, h1, h2, h3⟩ => by
    obtain ⟨A', c', rfl, hr2, hn⟩ := own_rowv ke_ok h2
    exact ⟨A', c', h1, hr2, hn, h3⟩
  newNo := fun n w hn _ => new14_no n hn w
  use := fun A L c i v w hrt hi hv hr hT => (use14p_c A L c (by have := rt_len hrt; omega) i v hi hv (right_t (rt_s hrt hi)) w hr hT).mono fun r w' ⟨A', c', h1, h2, _, h4⟩ => ⟨A', c', h1, h2, h4⟩
  drop := fun A L c i v w hrt hi hv hr hT => (drop14p_c A L c (by have := rt_len hrt; omega) i v hi hv w hr hT).mono fun r w' ⟨A', c', h1, h2, _, h4⟩ => ⟨A', c', by rw [h1, show (dropT L i v).length = L.length by unfold dropT; rw [List.length_set]], h2, h4⟩
  dropNo := fun A n c i v w h _ => drop14p_no A n c i v h w
  allO := fun A L c w hrt hr hT => (all14_c A L c (by have := rt_len hrt; omega) w hr).mono fun r w' h => h
end Go.Proofs.YtdbflmceomnmlaaDoor
