/- MemHolds: what is stored is loaded; nothing beside it changes. -/
import Derived.Test.YtcodgmahegofjaaLaw03b
import Derived.IntWalk
namespace Go.Proofs.Ytcodgmahegofjaa
open Go.ChangeShapes Go.WideShapes Go.ChangeAt Go.RowKit
set_option linter.unusedVariables false
set_option linter.unusedSimpArgs false

/-- the place that a law picks: a multiple of s below S -/
theorem place_x (a S s : Nat) (hs : IsSize s) (hS : 0 < S) (hm : S ≤ 1099511627776) : ∃ i : Nat, IntKind.u64.wrap (IntKind.u64.wrap (((a : Int) % (S : Int)).tdiv (s : Int)) * (s : Int)) = (i : Int) ∧ i % s = 0 ∧ i < S := by
  have h1 : a % S < S := Nat.mod_lt _ hS
  have h2 : a % S / s * s ≤ a % S := Nat.div_mul_le_self _ _
  have h3 : a % S / s ≤ a % S := Nat.div_le_self _ _
  have e0 : (a : Int) % (S : Int) = ((a % S : Nat) : Int) := by push_cast; rfl
  have e1 : (((a % S : Nat) : Int)).tdiv (s : Int) = ((a % S / s : Nat) : Int) := by
    rw [Int.tdiv_eq_ediv_of_nonneg (Int.natCast_nonneg _)]
    push_cast; rfl
  refine ⟨a % S / s * s, ?_, Nat.mul_mod_left _ _, by omega⟩
  rw [e0, e1]
  generalize a % S / s = q at *
  rw [show IntKind.u64.wrap (q : Int) = (q : Int) from IntWalk.u64_in _ (by omega), ← Int.natCast_mul]
  generalize q * s = r at *
  exact IntWalk.u64_in _ (by omega)

set_option maxRecDepth 100000 in
set_option maxHeartbeats 4000000 in
theorem MemHolds_w (S : Nat) (A : Option Addr) (L : List (Nat × Nat)) (c at' : Nat) (size : Int) (v other : Nat) (ac : Int) (hS : S < 18446744073709551616) (hL : IsCells L)
    (a1 : at' < 18446744073709551616) (z0 : 0 ≤ size) (z1 : size < 256) (v1 : v < 18446744073709551616) (o1 : other < 18446744073709551616) (y0 : 0 ≤ ac) (y1 : ac < 256) (w : World) (hr : RowL w A L c) :
    Calls Try.prog 5 #[.agg #[.int .u64 (S : Int), .slice A L.length c], .int .u64 (at' : Int), .int .u8 size, .int .u64 (v : Int), .int .u64 (other : Int), .int .u8 ac] w fun e w' => e = .returned (.bool true) ∧ Ext w w' := by
  cases hf : fitB S L
  · go_enter Try.func5, Try.ntmps5
    go_wp2_with fail; refine (awake3_c _).mono ?_; rintro e w1 ⟨rfl, hE1⟩; obtain ⟨hb0, hb1⟩ := box_mem hE1; have HE := Lib.hid (((Ext.refl w).alloc _).trans hE1); clear hE1; go_wp2_with fail; refine (fits_c S A L c hS hL _ (hr.1.ext HE.out)).mono ?_; rintro e w2 ⟨rfl, hE⟩; replace hb0 := ext_cell hE hb0; replace hb1 := ext_cell hE hb1; replace HE := Lib.hid (HE.out.trans hE); clear hE; rw [hf]
    go_wp2_with fail; refine (awake3_c _).mono ?_; rintro e w9 ⟨rfl, hE⟩; replace HE := Lib.hid (HE.out.trans hE); clear hE; go_wp2; go_ret; exact ⟨rfl, HE.out⟩
  by_cases h0 : S = 0
  · have hd : ((S : Int) == 0) = true := by simp; omega
    have hd' : (S == 0) = true := by simp; omega
    clear h0
    go_enter Try.func5, Try.ntmps5
    go_wp2_with fail; refine (awake3_c _).mono ?_; rintro e w1 ⟨rfl, hE1⟩; obtain ⟨hb0, hb1⟩ := box_mem hE1; have HE := Lib.hid (((Ext.refl w).alloc _).trans hE1); clear hE1; go_wp2_with fail; refine (fits_c S A L c hS hL _ (hr.1.ext HE.out)).mono ?_; rintro e w2 ⟨rfl, hE⟩; replace hb0 := ext_cell hE hb0; replace hb1 := ext_cell hE hb1; replace HE := Lib.hid (HE.out.trans hE); clear hE; rw [hf]
    go_wp2_with fail; refine (awake3_c _).mono ?_; rintro e w9 ⟨rfl, hE⟩; replace HE := Lib.hid (HE.out.trans hE); clear hE; go_wp2; go_ret; exact ⟨rfl, HE.out⟩
  have hd : ((S : Int) == 0) = false := by simp; omega
  have hd' : (S == 0) = false := by simp; omega
  obtain ⟨hM, h3⟩ := fit_mem hf hL hr
  obtain ⟨s, hs, -, hps⟩ := pick_s size z0 z1
  obtain ⟨o, ho, -, hpo⟩ := pick_s ac y0 y1
  obtain ⟨i, hi, hi0, hi1⟩ := place_x at' S s hs (by omega) hM.ok.le
  obtain ⟨k, hk, hk0, hk1⟩ := place_x other S o ho (by omega) hM.ok.le
  have hSm := hM.ok.le
  have hs8 := hs.le
  have ho8 := ho.le
  go_enter Try.func5, Try.ntmps5
  go_wp2_with fail; refine (awake3_c _).mono ?_; rintro e w1 ⟨rfl, hE1⟩; obtain ⟨hb0, hb1⟩ := box_mem hE1; have HE := Lib.hid (((Ext.refl w).alloc _).trans hE1); clear hE1; go_wp2_with fail; refine (fits_c S A L c hS hL _ (hr.1.ext HE.out)).mono ?_; rintro e w2 ⟨rfl, hE⟩; replace hb0 := ext_cell hE hb0; replace hb1 := ext_cell hE hb1; replace HE := Lib.hid (HE.out.trans hE); clear hE; rw [hf]
  go_wp2_with fail
  refine (hps _).mono ?_
  rintro e w3 ⟨rfl, hE⟩
  replace hb0 := ext_cell hE hb0; replace hb1 := ext_cell hE hb1; replace HE := Lib.hid (HE.out.trans hE)
  go_wp2_with fail
  refine (hpo _).mono ?_
  rintro e w4 ⟨rfl, hE⟩
  replace hb0 := ext_cell hE hb0; replace hb1 := ext_cell hE hb1; replace HE := Lib.hid (HE.out.trans hE)
  have hM4 := hM.ext HE.out
  go_wp2_with fail
  clear hi hk
  refine (store_x hM4 v1 hs hi0 hi1 (by omega)).mono ?_
  rintro e w5 ⟨A1, c1, rfl, hM5, hE⟩
  replace hb0 := ext_cell hE hb0; replace hb1 := ext_cell hE hb1; replace HE := Lib.hid (HE.out.trans hE)
  replace hM4 := hM4.ext hE
  have hl5 : w.heap.size < w5.heap.size := block_lt_of_cell hb0
  have hx1 := load_stored (L := L) hs hi0 v
  obtain ⟨L1, hL1⟩ : ∃ L1, L1 = storeL L i s v := ⟨_, rfl⟩
  rw [← hL1] at hM5 hx1 ⊢
  have HL1 := Lib.hid hL1
  clear hL1
  replace HE := Lib.hid (HE.out.alloc (.cells #[.int .u64 (S : Int), .slice A1 L1.length c1] 25))
  replace hM5 := hM5.ext ((Ext.refl w5).alloc (.cells #[.int .u64 (S : Int), .slice A1 L1.length c1] 25))
  replace hM4 := hM4.ext ((Ext.refl w5).alloc (.cells #[.int .u64 (S : Int), .slice A1 L1.length c1] 25))
  clear hE
  go_wp2_with fail
  refine (load_x hM5 hs hi0 hi1).mono ?_
  rintro e w6 ⟨rfl, hE⟩
  rw [hx1]
  obtain ⟨ha0, ha1⟩ := box_mem hE
  replace hb0 := ext_cell (((Ext.refl w5).alloc _).trans hE) hb0
  replace hb1 := ext_cell (((Ext.refl w5).alloc _).trans hE) hb1
  replace HE := Lib.hid (HE.out.trans hE)
  replace hM5 := hM5.ext hE
  replace hM4 := hM4.ext hE
  clear hE
  go_wp2_with fail
  refine (load_x hM4 ho hk0 hk1).mono ?_
  rintro e w7 ⟨rfl, hE⟩
  replace hb0 := ext_cell hE hb0; replace hb1 := ext_cell hE hb1; replace HE := Lib.hid (HE.out.trans hE)
  replace ha0 := ext_cell hE ha0; replace ha1 := ext_cell hE ha1
  replace hM5 := hM5.ext hE
  clear hE
  go_wp2_with fail
  refine (load_x hM5 ho hk0 hk1).mono ?_
  rintro e w8 ⟨rfl, hE⟩
  replace hb0 := ext_cell hE hb0; replace hb1 := ext_cell hE hb1; replace HE := Lib.hid (HE.out.trans hE)
  replace ha0 := ext_cell hE ha0; replace ha1 := ext_cell hE ha1
  replace hM5 := hM5.ext hE
  clear hE
  go_wp2_with fail
  refine (low_x v s v1 hs _).mono ?_
  rintro e w9 ⟨rfl, hE⟩
  replace hb0 := ext_cell hE hb0; replace hb1 := ext_cell hE hb1; replace HE := Lib.hid (HE.out.trans hE)
  replace ha0 := ext_cell hE ha0; replace ha1 := ext_cell hE ha1
  replace hM5 := hM5.ext hE
  clear hE
  go_wp2_with fail
  refine (right_x hM5).mono ?_
  rintro e w10 ⟨rfl, hE⟩
  replace HE := Lib.hid (HE.out.trans hE)
  clear hE
  by_cases hov : k < i + s ∧ i < k + o
  · have d1 : decide ((k : Int) < (i : Int) + (s : Int)) = true := by simp; omega
    have d2 : decide ((i : Int) < (k : Int) + (o : Int)) = true := by simp; omega
    go_wp2
    go_ret
    exact ⟨rfl, HE.out⟩
  · have hap := load_apart (L := L) hs hi0 ho.le.2 hov v
    rw [← HL1.out] at hap
    rw [hap]
    by_cases d : k < i + s
    · have d1 : decide ((k : Int) < (i : Int) + (s : Int)) = true := by simp; omega
      have d2 : decide ((i : Int) < (k : Int) + (o : Int)) = false := by simp; omega
      go_wp2
      go_ret
      exact ⟨rfl, HE.out⟩
    · have d1 : decide ((k : Int) < (i : Int) + (s : Int)) = false := by simp; omega
      go_wp2
      go_ret
      exact ⟨rfl, HE.out⟩
end Go.Proofs.Ytcodgmahegofjaa
