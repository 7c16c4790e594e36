/- MemTurned: stores that lie apart are the same in either order; what is stored again as it was makes the memory that was. -/
import Derived.Test.YtcodgmahegofjaaLaw03c
namespace Go.Proofs.Ytcodgmahegofjaa
open Go.ChangeShapes Go.WideShapes Go.ChangeAt Go.RowKit
set_option linter.unusedVariables false
set_option linter.unusedSimpArgs false
attribute [local irreducible] storeL loadL

set_option maxRecDepth 100000 in
set_option maxHeartbeats 4000000 in
theorem MemTurned_w (S : Nat) (A : Option Addr) (L : List (Nat × Nat)) (c at' : Nat) (size : Int) (v other : Nat) (ac : Int) (u : Nat) (hS : S < 18446744073709551616) (hL : IsCells L)
    (a1 : at' < 18446744073709551616) (z0 : 0 ≤ size) (z1 : size < 256) (v1 : v < 18446744073709551616) (o1 : other < 18446744073709551616) (y0 : 0 ≤ ac) (y1 : ac < 256) (u1 : u < 18446744073709551616) (w : World) (hr : RowL w A L c) :
    Calls Try.prog 6 #[.agg #[.int .u64 (S : Int), .slice A L.length c], .int .u64 (at' : Int), .int .u8 size, .int .u64 (v : Int), .int .u64 (other : Int), .int .u8 ac, .int .u64 (u : Int)] w fun e w' => e = .returned (.bool true) ∧ Ext w w' := by
  cases hf : fitB S L
  · go_enter Try.func6, Try.ntmps6
    go_wp2_with fail; refine (awake3_c _).mono ?_; rintro e w1 ⟨rfl, hE1⟩; obtain ⟨hb0, hb1⟩ := box_mem hE1; have HE := Lib.hid (((Ext.refl w).alloc _).trans hE1); clear hE1; go_wp2_with fail; refine (fits_c S A L c hS hL _ (hr.1.ext HE.out)).mono ?_; rintro e w2 ⟨rfl, hE⟩; replace hb0 := ext_cell hE hb0; replace hb1 := ext_cell hE hb1; replace HE := Lib.hid (HE.out.trans hE); clear hE; rw [hf]
    go_wp2_with fail; refine (awake3_c _).mono ?_; rintro e w9 ⟨rfl, hE⟩; replace HE := Lib.hid (HE.out.trans hE); clear hE; go_wp2; go_ret; exact ⟨rfl, HE.out⟩
  by_cases h0 : S = 0
  · have hd : ((S : Int) == 0) = true := by simp; omega
    have hd' : (S == 0) = true := by simp; omega
    clear h0
    go_enter Try.func6, Try.ntmps6
    go_wp2_with fail; refine (awake3_c _).mono ?_; rintro e w1 ⟨rfl, hE1⟩; obtain ⟨hb0, hb1⟩ := box_mem hE1; have HE := Lib.hid (((Ext.refl w).alloc _).trans hE1); clear hE1; go_wp2_with fail; refine (fits_c S A L c hS hL _ (hr.1.ext HE.out)).mono ?_; rintro e w2 ⟨rfl, hE⟩; replace hb0 := ext_cell hE hb0; replace hb1 := ext_cell hE hb1; replace HE := Lib.hid (HE.out.trans hE); clear hE; rw [hf]
    go_wp2_with fail; refine (awake3_c _).mono ?_; rintro e w9 ⟨rfl, hE⟩; replace HE := Lib.hid (HE.out.trans hE); clear hE; go_wp2; go_ret; exact ⟨rfl, HE.out⟩
  have hd : ((S : Int) == 0) = false := by simp; omega
  have hd' : (S == 0) = false := by simp; omega
  obtain ⟨hM, h3⟩ := fit_mem hf hL hr
  obtain ⟨s, hs, -, hps⟩ := pick_s size z0 z1
  obtain ⟨o, ho, -, hpo⟩ := pick_s ac y0 y1
  obtain ⟨i, hi, hi0, hi1⟩ := place_x at' S s hs (by omega) hM.ok.le
  obtain ⟨k, hk, hk0, hk1⟩ := place_x other S o ho (by omega) hM.ok.le
  have hSm := hM.ok.le
  have hm8 := hM.ok.mod8
  have hs8 := hs.le
  have ho8 := ho.le
  have hback := Lib.hid (store_back hM.rl (i := i) (by omega) hs hi0 v)
  have hla := Lib.hid (loadL_64 L i hs8.2)
  have l1 := storeL_len L i s v
  have l2 := storeL_len L k o u
  go_enter Try.func6, Try.ntmps6
  go_wp2_with fail; refine (awake3_c _).mono ?_; rintro e w1 ⟨rfl, hE1⟩; obtain ⟨hb0, hb1⟩ := box_mem hE1; have HE := Lib.hid (((Ext.refl w).alloc _).trans hE1); clear hE1; go_wp2_with fail; refine (fits_c S A L c hS hL _ (hr.1.ext HE.out)).mono ?_; rintro e w2 ⟨rfl, hE⟩; replace hb0 := ext_cell hE hb0; replace hb1 := ext_cell hE hb1; replace HE := Lib.hid (HE.out.trans hE); clear hE; rw [hf]
  replace hM := hM.ext HE.out
  go_wp2_with fail
  refine (hps _).mono ?_
  rintro e w3 ⟨rfl, hE⟩
  (try replace hM := hM.ext hE); (try replace hMa := hMa.ext hE); (try replace hMb := hMb.ext hE); (try replace hMc := hMc.ext hE); (try replace hMd := hMd.ext hE); (try replace hMe := hMe.ext hE); (try replace hb0 := ext_cell hE hb0); (try replace hb1 := ext_cell hE hb1); (try replace ha0 := ext_cell hE ha0); (try replace ha1 := ext_cell hE ha1); (try replace hbb0 := ext_cell hE hbb0); (try replace hbb1 := ext_cell hE hbb1); (try replace hc0 := ext_cell hE hc0); (try replace hc1 := ext_cell hE hc1); (try replace hd0 := ext_cell hE hd0); (try replace hd1 := ext_cell hE hd1); (try replace he0 := ext_cell hE he0); (try replace he1 := ext_cell hE he1); replace HE := Lib.hid (HE.out.trans hE); clear hE
  go_wp2_with fail
  refine (hpo _).mono ?_
  rintro e w4 ⟨rfl, hE⟩
  (try replace hM := hM.ext hE); (try replace hMa := hMa.ext hE); (try replace hMb := hMb.ext hE); (try replace hMc := hMc.ext hE); (try replace hMd := hMd.ext hE); (try replace hMe := hMe.ext hE); (try replace hb0 := ext_cell hE hb0); (try replace hb1 := ext_cell hE hb1); (try replace ha0 := ext_cell hE ha0); (try replace ha1 := ext_cell hE ha1); (try replace hbb0 := ext_cell hE hbb0); (try replace hbb1 := ext_cell hE hbb1); (try replace hc0 := ext_cell hE hc0); (try replace hc1 := ext_cell hE hc1); (try replace hd0 := ext_cell hE hd0); (try replace hd1 := ext_cell hE hd1); (try replace he0 := ext_cell hE he0); (try replace he1 := ext_cell hE he1); replace HE := Lib.hid (HE.out.trans hE); clear hE
  go_wp2_with fail
  clear hi hk
  refine (load_x hM hs hi0 hi1).mono ?_
  rintro e w5 ⟨rfl, hE⟩
  (try replace hM := hM.ext hE); (try replace hMa := hMa.ext hE); (try replace hMb := hMb.ext hE); (try replace hMc := hMc.ext hE); (try replace hMd := hMd.ext hE); (try replace hMe := hMe.ext hE); (try replace hb0 := ext_cell hE hb0); (try replace hb1 := ext_cell hE hb1); (try replace ha0 := ext_cell hE ha0); (try replace ha1 := ext_cell hE ha1); (try replace hbb0 := ext_cell hE hbb0); (try replace hbb1 := ext_cell hE hbb1); (try replace hc0 := ext_cell hE hc0); (try replace hc1 := ext_cell hE hc1); (try replace hd0 := ext_cell hE hd0); (try replace hd1 := ext_cell hE hd1); (try replace he0 := ext_cell hE he0); (try replace he1 := ext_cell hE he1); replace HE := Lib.hid (HE.out.trans hE); clear hE
  go_wp2_with fail
  refine (store_x hM v1 hs hi0 hi1 (by omega)).mono ?_
  rintro e w6 ⟨A1, c1, rfl, hMa, hE⟩
  replace hM := hM.ext hE
  (try replace hb0 := ext_cell hE hb0); (try replace hb1 := ext_cell hE hb1); (try replace ha0 := ext_cell hE ha0); (try replace ha1 := ext_cell hE ha1); (try replace hbb0 := ext_cell hE hbb0); (try replace hbb1 := ext_cell hE hbb1); (try replace hc0 := ext_cell hE hc0); (try replace hc1 := ext_cell hE hc1); (try replace hd0 := ext_cell hE hd0); (try replace hd1 := ext_cell hE hd1); (try replace he0 := ext_cell hE he0); (try replace he1 := ext_cell hE he1)
  replace HE := Lib.hid (HE.out.trans hE)
  clear hE
  have lm := block_lt_of_cell hb0
  go_wp2_with fail
  refine (store_x (hMa.ext ((Ext.refl w6).alloc _)) u1 ho hk0 hk1 (by omega)).mono ?_
  rintro e w7 ⟨A2, c2, rfl, hMb, hE0⟩
  have hE := ((Ext.refl w6).alloc _).trans hE0
  replace hM := hM.ext hE
  replace hMa := hMa.ext hE
  (try replace hb0 := ext_cell hE hb0); (try replace hb1 := ext_cell hE hb1); (try replace ha0 := ext_cell hE ha0); (try replace ha1 := ext_cell hE ha1); (try replace hbb0 := ext_cell hE hbb0); (try replace hbb1 := ext_cell hE hbb1); (try replace hc0 := ext_cell hE hc0); (try replace hc1 := ext_cell hE hc1); (try replace hd0 := ext_cell hE hd0); (try replace hd1 := ext_cell hE hd1); (try replace he0 := ext_cell hE he0); (try replace he1 := ext_cell hE he1)
  obtain ⟨ha0, ha1⟩ := box_mem hE0
  replace HE := Lib.hid (HE.out.trans hE)
  clear hE hE0
  replace lm := block_lt_of_cell hb0
  have la := block_lt_of_cell ha0
  go_wp2_with fail
  refine (store_x (hM.ext ((Ext.refl w7).alloc _)) u1 ho hk0 hk1 (by omega)).mono ?_
  rintro e w8 ⟨A3, c3, rfl, hMc, hE0⟩
  have hE := ((Ext.refl w7).alloc _).trans hE0
  replace hM := hM.ext hE
  replace hMa := hMa.ext hE
  replace hMb := hMb.ext hE
  (try replace hb0 := ext_cell hE hb0); (try replace hb1 := ext_cell hE hb1); (try replace ha0 := ext_cell hE ha0); (try replace ha1 := ext_cell hE ha1); (try replace hbb0 := ext_cell hE hbb0); (try replace hbb1 := ext_cell hE hbb1); (try replace hc0 := ext_cell hE hc0); (try replace hc1 := ext_cell hE hc1); (try replace hd0 := ext_cell hE hd0); (try replace hd1 := ext_cell hE hd1); (try replace he0 := ext_cell hE he0); (try replace he1 := ext_cell hE he1)
  obtain ⟨hbb0, hbb1⟩ := box_mem hE0
  replace HE := Lib.hid (HE.out.trans hE)
  clear hE hE0
  replace lm := block_lt_of_cell hb0
  replace la := block_lt_of_cell ha0
  have lb := block_lt_of_cell hbb0
  go_wp2_with fail
  refine (store_x (hMc.ext ((Ext.refl w8).alloc _)) v1 hs hi0 hi1 (by omega)).mono ?_
  rintro e w9 ⟨A4, c4, rfl, hMd, hE0⟩
  have hE := ((Ext.refl w8).alloc _).trans hE0
  replace hM := hM.ext hE
  replace hMa := hMa.ext hE
  replace hMb := hMb.ext hE
  (try replace hb0 := ext_cell hE hb0); (try replace hb1 := ext_cell hE hb1); (try replace ha0 := ext_cell hE ha0); (try replace ha1 := ext_cell hE ha1); (try replace hbb0 := ext_cell hE hbb0); (try replace hbb1 := ext_cell hE hbb1); (try replace hc0 := ext_cell hE hc0); (try replace hc1 := ext_cell hE hc1); (try replace hd0 := ext_cell hE hd0); (try replace hd1 := ext_cell hE hd1); (try replace he0 := ext_cell hE he0); (try replace he1 := ext_cell hE he1)
  replace HE := Lib.hid (HE.out.trans hE)
  clear hE hE0
  replace lm := block_lt_of_cell hb0
  replace la := block_lt_of_cell ha0
  replace lb := block_lt_of_cell hbb0
  go_wp2_with fail
  refine (store_x (hMa.ext ((Ext.refl w9).alloc _)) hla.out hs hi0 hi1 (by omega)).mono ?_
  rintro e w10 ⟨A5, c5, rfl, hMe, hE0⟩
  rw [hback.out] at hMe ⊢
  have hE := ((Ext.refl w9).alloc _).trans hE0
  replace hM := hM.ext hE
  replace hMb := hMb.ext hE
  replace hMd := hMd.ext hE
  (try replace hb0 := ext_cell hE hb0); (try replace hb1 := ext_cell hE hb1); (try replace ha0 := ext_cell hE ha0); (try replace ha1 := ext_cell hE ha1); (try replace hbb0 := ext_cell hE hbb0); (try replace hbb1 := ext_cell hE hbb1); (try replace hc0 := ext_cell hE hc0); (try replace hc1 := ext_cell hE hc1); (try replace hd0 := ext_cell hE hd0); (try replace hd1 := ext_cell hE hd1); (try replace he0 := ext_cell hE he0); (try replace he1 := ext_cell hE he1)
  obtain ⟨hd0, hd1⟩ := box_mem hE0
  replace HE := Lib.hid (HE.out.trans hE)
  clear hE hE0 ha0 ha1 la
  replace lm := block_lt_of_cell hb0
  replace lb := block_lt_of_cell hbb0
  have ld := block_lt_of_cell hd0
  go_wp2_with fail
  refine (same_x (hMe.ext ((Ext.refl w10).alloc _)) (hM.ext ((Ext.refl w10).alloc _)) rfl).mono ?_
  rintro e w11 ⟨rfl, hE0⟩
  have hE := ((Ext.refl w10).alloc _).trans hE0
  replace hMb := hMb.ext hE
  replace hMd := hMd.ext hE
  (try replace hb0 := ext_cell hE hb0); (try replace hb1 := ext_cell hE hb1); (try replace ha0 := ext_cell hE ha0); (try replace ha1 := ext_cell hE ha1); (try replace hbb0 := ext_cell hE hbb0); (try replace hbb1 := ext_cell hE hbb1); (try replace hc0 := ext_cell hE hc0); (try replace hc1 := ext_cell hE hc1); (try replace hd0 := ext_cell hE hd0); (try replace hd1 := ext_cell hE hd1); (try replace he0 := ext_cell hE he0); (try replace he1 := ext_cell hE he1)
  replace HE := Lib.hid (HE.out.trans hE)
  clear hE hE0
  by_cases hov : k < i + s ∧ i < k + o
  · have d1 : decide ((k : Int) < (i : Int) + (s : Int)) = true := by simp; omega
    have d2 : decide ((i : Int) < (k : Int) + (o : Int)) = true := by simp; omega
    go_wp2
    go_ret
    exact ⟨rfl, HE.out⟩
  · have hap := Lib.hid (store_turn (fit_mem hf hL hr).1.rl (by omega) (by omega) hs ho hi0 hk0 hov v u)
    by_cases d : k < i + s
    · have d1 : decide ((k : Int) < (i : Int) + (s : Int)) = true := by simp; omega
      have d2 : decide ((i : Int) < (k : Int) + (o : Int)) = false := by simp; omega
      go_wp2_with fail
      refine (same_x hMb hMd hap.out).mono ?_
      rintro e w12 ⟨rfl, hE⟩
      replace HE := Lib.hid (HE.out.trans hE)
      clear hE
      go_wp2
      go_ret
      exact ⟨rfl, HE.out⟩
    · have d1 : decide ((k : Int) < (i : Int) + (s : Int)) = false := by simp; omega
      go_wp2_with fail
      refine (same_x hMb hMd hap.out).mono ?_
      rintro e w12 ⟨rfl, hE⟩
      replace HE := Lib.hid (HE.out.trans hE)
      clear hE
      go_wp2
      go_ret
      exact ⟨rfl, HE.out⟩
end Go.Proofs.Ytcodgmahegofjaa
