/- MemHalves: a number that is loaded is made of its halves; stored as its halves it is the same memory; a word is what is loaded of eight bytes. -/
import Derived.Test.YtcodgmahegofjaaLaw03c
namespace Go.Proofs.Ytcodgmahegofjaa
open Go.ChangeShapes Go.WideShapes Go.ChangeAt Go.RowKit
set_option linter.unusedVariables false
set_option linter.unusedSimpArgs false

theorem rowN_add (f : Nat → Nat) (n m : Nat) : rowN f (n + m) = rowN f n ++ rowN (fun k => f (n + k)) m := by
  unfold rowN
  rw [List.range_add, List.map_append, List.map_map]; rfl
theorem load_halves (L : List (Nat × Nat)) (i h : Nat) : loadL L i (h + h) = loadL L i h + 256 ^ h * loadL L (i + h) h := by
  unfold loadL
  rw [rowN_add, numN_append, rowN_len]
  have e : (fun k => byteL L (i + (h + k))) = fun k => byteL L (i + h + k) := by funext k; rw [Nat.add_assoc]
  rw [e]
theorem byteN_shift (v h j : Nat) : byteN (v / 256 ^ h) j = byteN v (h + j) := by
  unfold byteN; rw [Nat.div_div_eq_div_mul, ← Nat.pow_add]
theorem store_halves {n : Nat} {L : List (Nat × Nat)} (hL : RL n L) {i h : Nat} (hi1 : i / 8 < n) (hk1 : (i + h) / 8 < n) (hs : IsSize h) (hs2 : IsSize (h + h)) (hi : i % (h + h) = 0) (hi' : i % h = 0) (hi2 : (i + h) % h = 0) (v : Nat) :
    storeL L i (h + h) v = storeL (storeL L i h v) (i + h) h (v / 256 ^ h) := by
  refine RL.ext_byte (storeL_is hL hi1 (h + h) v) (storeL_is (storeL_is hL hi1 h v) hk1 h _) fun b => ?_
  rw [storeL_byte hs2 hi, storeL_byte hs hi2, storeL_byte hs hi']
  by_cases h1 : i + h ≤ b ∧ b < i + h + h
  · rw [if_pos (by omega), if_pos h1, byteN_shift, show h + (b - (i + h)) = b - i by omega]
  · rw [if_neg h1]
    by_cases h2 : i ≤ b ∧ b < i + h
    · rw [if_pos (by omega), if_pos h2]
    · rw [if_neg (by omega), if_neg h2]
theorem pick_3 (size : Int) (z0 : 0 ≤ size) : pickN (size % 3) = 1 ∨ pickN (size % 3) = 2 ∨ pickN (size % 3) = 4 := by
  rcases (show size % 3 = 0 ∨ size % 3 = 1 ∨ size % 3 = 2 by omega) with h | h | h <;> rw [h]
  · exact .inl (pickN_0 (by decide))
  · exact .inr (.inl (pickN_1 (by decide)))
  · exact .inr (.inr (pickN_2 (by decide)))
attribute [local irreducible] storeL loadL wordL

set_option maxRecDepth 100000 in
set_option maxHeartbeats 4000000 in
theorem MemHalves_w (S : Nat) (A : Option Addr) (L : List (Nat × Nat)) (c at' : Nat) (size : Int) (v : Nat) (hS : S < 18446744073709551616) (hL : IsCells L)
    (a1 : at' < 18446744073709551616) (z0 : 0 ≤ size) (z1 : size < 256) (v1 : v < 18446744073709551616) (w : World) (hr : RowL w A L c) :
    Calls Try.prog 8 #[.agg #[.int .u64 (S : Int), .slice A L.length c], .int .u64 (at' : Int), .int .u8 size, .int .u64 (v : Int)] w fun e w' => e = .returned (.bool true) ∧ Ext w w' := by
  cases hf : fitB S L
  · go_enter Try.func8, Try.ntmps8
    go_wp2_with fail; refine (awake3_c _).mono ?_; rintro e w1 ⟨rfl, hE1⟩; obtain ⟨hb0, hb1⟩ := box_mem hE1; have HE := Lib.hid (((Ext.refl w).alloc _).trans hE1); clear hE1; go_wp2_with fail; refine (fits_c S A L c hS hL _ (hr.1.ext HE.out)).mono ?_; rintro e w2 ⟨rfl, hE⟩; replace hb0 := ext_cell hE hb0; replace hb1 := ext_cell hE hb1; replace HE := Lib.hid (HE.out.trans hE); clear hE; rw [hf]
    go_wp2_with fail; refine (awake3_c _).mono ?_; rintro e w9 ⟨rfl, hE⟩; replace HE := Lib.hid (HE.out.trans hE); clear hE; go_wp2; go_ret; exact ⟨rfl, HE.out⟩
  by_cases h0 : S = 0
  · have hd : ((S : Int) == 0) = true := by simp; omega
    have hd' : (S == 0) = true := by simp; omega
    clear h0
    go_enter Try.func8, Try.ntmps8
    go_wp2_with fail; refine (awake3_c _).mono ?_; rintro e w1 ⟨rfl, hE1⟩; obtain ⟨hb0, hb1⟩ := box_mem hE1; have HE := Lib.hid (((Ext.refl w).alloc _).trans hE1); clear hE1; go_wp2_with fail; refine (fits_c S A L c hS hL _ (hr.1.ext HE.out)).mono ?_; rintro e w2 ⟨rfl, hE⟩; replace hb0 := ext_cell hE hb0; replace hb1 := ext_cell hE hb1; replace HE := Lib.hid (HE.out.trans hE); clear hE; rw [hf]
    go_wp2_with fail; refine (awake3_c _).mono ?_; rintro e w9 ⟨rfl, hE⟩; replace HE := Lib.hid (HE.out.trans hE); clear hE; go_wp2; go_ret; exact ⟨rfl, HE.out⟩
  have hd : ((S : Int) == 0) = false := by simp; omega
  have hd' : (S == 0) = false := by simp; omega
  obtain ⟨hM, h3⟩ := fit_mem hf hL hr
  obtain ⟨s, hs, hsp, hps⟩ := pick_s (size % 3) (by omega) (by omega)
  have hSm := hM.ok.le
  have hm8 := hM.ok.1
  have hml : at' % S < S := Nat.mod_lt _ (by omega)
  have hmi : (at' : Int) % (S : Int) = ((at' % S : Nat) : Int) := by push_cast; rfl
  have h3s := pick_3 size z0
  rw [← hsp] at h3s
  clear hsp
  rcases h3s with rfl | rfl | rfl
  · obtain ⟨i, hi, hi0, hi1⟩ : ∃ i : Nat, (at' : Int) % (S : Int) / 2 * 2 = (i : Int) ∧ i % 2 = 0 ∧ i < S := ⟨at' % S / 2 * 2, by rw [hmi]; omega, by omega, by omega⟩
    have hx := load_halves L i 1
    have hlo := loadL_lt L i 1
    have hhi := loadL_lt L (i + 1) 1
    obtain ⟨x, hX⟩ : ∃ x, x = loadL L i 2 := ⟨_, rfl⟩
    obtain ⟨lo, hLo⟩ : ∃ x, x = loadL L i 1 := ⟨_, rfl⟩
    obtain ⟨hg, hHi⟩ : ∃ x, x = loadL L (i + 1) 1 := ⟨_, rfl⟩
    have hx' : x = lo + hg * 256 := by rw [hX, hLo, hHi, Nat.mul_comm]; exact hx
    rw [← hLo] at hlo
    rw [← hHi] at hhi
    have hlo' : lo < 256 := hlo
    have hhi' : hg < 256 := hhi
    have HX := Lib.hid hX
    have HLo := Lib.hid hLo
    have HHi := Lib.hid hHi
    have hh : Hid (storeL L i 2 v = storeL (storeL L i 1 v) (i + 1) 1 (v / 256)) := Lib.hid (store_halves hM.rl (i := i) (h := 1) (by omega) (by omega) (.inl rfl) (.inr (.inl rfl)) hi0 (by omega) (by omega) v)
    have hwd : Hid (loadL (storeL L i 2 v) (i / 8 * 8) 8 = wordL (storeL L i 2 v) (i / 8)) := Lib.hid (load_word (storeL_is hM.rl (by omega) 2 v) i)
    have l1 := storeL_len L i 2 v
    have l2 := storeL_len L i 1 v
    clear hmi hml hX hLo hHi hx hlo hhi
    go_enter Try.func8, Try.ntmps8
    go_wp2_with fail; refine (awake3_c _).mono ?_; rintro e w1 ⟨rfl, hE1⟩; obtain ⟨hb0, hb1⟩ := box_mem hE1; have HE := Lib.hid (((Ext.refl w).alloc _).trans hE1); clear hE1; go_wp2_with fail; refine (fits_c S A L c hS hL _ (hr.1.ext HE.out)).mono ?_; rintro e w2 ⟨rfl, hE⟩; replace hb0 := ext_cell hE hb0; replace hb1 := ext_cell hE hb1; replace HE := Lib.hid (HE.out.trans hE); clear hE; rw [hf]
    replace hM := hM.ext HE.out
    go_wp2_with fail
    refine (hps _).mono ?_
    rintro e w3 ⟨rfl, hE⟩
    (try replace hM := hM.ext hE); (try replace hMa := hMa.ext hE); (try replace hMb := hMb.ext hE); (try replace hMc := hMc.ext hE); (try replace hMd := hMd.ext hE); (try replace hMe := hMe.ext hE); (try replace hb0 := ext_cell hE hb0); (try replace hb1 := ext_cell hE hb1); (try replace ha0 := ext_cell hE ha0); (try replace ha1 := ext_cell hE ha1); (try replace hbb0 := ext_cell hE hbb0); (try replace hbb1 := ext_cell hE hbb1); (try replace hc0 := ext_cell hE hc0); (try replace hc1 := ext_cell hE hc1); (try replace hd0 := ext_cell hE hd0); (try replace hd1 := ext_cell hE hd1); (try replace he0 := ext_cell hE he0); (try replace he1 := ext_cell hE he1); replace HE := Lib.hid (HE.out.trans hE); clear hE
    go_wp2_with fail
    clear hi
    refine (load_x hM (s := 2) (.inr (.inl rfl)) hi0 hi1).mono ?_
    rintro e w4 ⟨rfl, hE⟩
    rw [← HX.out]
    (try replace hM := hM.ext hE); (try replace hMa := hMa.ext hE); (try replace hMb := hMb.ext hE); (try replace hMc := hMc.ext hE); (try replace hMd := hMd.ext hE); (try replace hMe := hMe.ext hE); (try replace hb0 := ext_cell hE hb0); (try replace hb1 := ext_cell hE hb1); (try replace ha0 := ext_cell hE ha0); (try replace ha1 := ext_cell hE ha1); (try replace hbb0 := ext_cell hE hbb0); (try replace hbb1 := ext_cell hE hbb1); (try replace hc0 := ext_cell hE hc0); (try replace hc1 := ext_cell hE hc1); (try replace hd0 := ext_cell hE hd0); (try replace hd1 := ext_cell hE hd1); (try replace he0 := ext_cell hE he0); (try replace he1 := ext_cell hE he1); replace HE := Lib.hid (HE.out.trans hE); clear hE
    go_wp2_with fail
    refine (load_x hM (s := 1) (.inl rfl) (by omega) hi1).mono ?_
    rintro e w5 ⟨rfl, hE⟩
    rw [← HLo.out]
    (try replace hM := hM.ext hE); (try replace hMa := hMa.ext hE); (try replace hMb := hMb.ext hE); (try replace hMc := hMc.ext hE); (try replace hMd := hMd.ext hE); (try replace hMe := hMe.ext hE); (try replace hb0 := ext_cell hE hb0); (try replace hb1 := ext_cell hE hb1); (try replace ha0 := ext_cell hE ha0); (try replace ha1 := ext_cell hE ha1); (try replace hbb0 := ext_cell hE hbb0); (try replace hbb1 := ext_cell hE hbb1); (try replace hc0 := ext_cell hE hc0); (try replace hc1 := ext_cell hE hc1); (try replace hd0 := ext_cell hE hd0); (try replace hd1 := ext_cell hE hd1); (try replace he0 := ext_cell hE he0); (try replace he1 := ext_cell hE he1); replace HE := Lib.hid (HE.out.trans hE); clear hE
    go_wp2_with fail
    refine (load_x hM (i := i + 1) (s := 1) (.inl rfl) (by omega) (by omega)).mono ?_
    rintro e w6 ⟨rfl, hE⟩
    rw [← HHi.out]
    (try replace hM := hM.ext hE); (try replace hMa := hMa.ext hE); (try replace hMb := hMb.ext hE); (try replace hMc := hMc.ext hE); (try replace hMd := hMd.ext hE); (try replace hMe := hMe.ext hE); (try replace hb0 := ext_cell hE hb0); (try replace hb1 := ext_cell hE hb1); (try replace ha0 := ext_cell hE ha0); (try replace ha1 := ext_cell hE ha1); (try replace hbb0 := ext_cell hE hbb0); (try replace hbb1 := ext_cell hE hbb1); (try replace hc0 := ext_cell hE hc0); (try replace hc1 := ext_cell hE hc1); (try replace hd0 := ext_cell hE hd0); (try replace hd1 := ext_cell hE hd1); (try replace he0 := ext_cell hE he0); (try replace he1 := ext_cell hE he1); replace HE := Lib.hid (HE.out.trans hE); clear hE
    go_wp2_with fail
    refine (store_x hM (s := 2) v1 (.inr (.inl rfl)) hi0 hi1 (by omega)).mono ?_
    rintro e w7 ⟨A1, c1, rfl, hMa, hE⟩
    replace hM := hM.ext hE
    (try replace hb0 := ext_cell hE hb0); (try replace hb1 := ext_cell hE hb1); (try replace ha0 := ext_cell hE ha0); (try replace ha1 := ext_cell hE ha1); (try replace hbb0 := ext_cell hE hbb0); (try replace hbb1 := ext_cell hE hbb1); (try replace hc0 := ext_cell hE hc0); (try replace hc1 := ext_cell hE hc1); (try replace hd0 := ext_cell hE hd0); (try replace hd1 := ext_cell hE hd1); (try replace he0 := ext_cell hE he0); (try replace he1 := ext_cell hE he1)
    replace HE := Lib.hid (HE.out.trans hE)
    clear hE
    have lm := block_lt_of_cell hb0
    go_wp2_with fail
    refine (store_x (hM.ext ((Ext.refl w7).alloc _)) (s := 1) v1 (.inl rfl) (by omega) hi1 (by omega)).mono ?_
    rintro e w8 ⟨A2, c2, rfl, hMb, hE0⟩
    have hE := ((Ext.refl w7).alloc _).trans hE0
    replace hM := hM.ext hE
    replace hMa := hMa.ext hE
    (try replace hb0 := ext_cell hE hb0); (try replace hb1 := ext_cell hE hb1); (try replace ha0 := ext_cell hE ha0); (try replace ha1 := ext_cell hE ha1); (try replace hbb0 := ext_cell hE hbb0); (try replace hbb1 := ext_cell hE hbb1); (try replace hc0 := ext_cell hE hc0); (try replace hc1 := ext_cell hE hc1); (try replace hd0 := ext_cell hE hd0); (try replace hd1 := ext_cell hE hd1); (try replace he0 := ext_cell hE he0); (try replace he1 := ext_cell hE he1)
    obtain ⟨ha0, ha1⟩ := box_mem hE0
    replace HE := Lib.hid (HE.out.trans hE)
    clear hE hE0
    have la := block_lt_of_cell ha0
    go_wp2_with fail
    refine (store_x (hMb.ext ((Ext.refl w8).alloc _)) (i := i + 1) (s := 1) (v := v / 256) (by omega) (.inl rfl) (by omega) (by omega) (by omega)).mono ?_
    rintro e w9 ⟨A3, c3, rfl, hMc, hE0⟩
    rw [← hh.out] at hMc ⊢
    have hE := ((Ext.refl w8).alloc _).trans hE0
    replace hMa := hMa.ext hE
    (try replace hb0 := ext_cell hE hb0); (try replace hb1 := ext_cell hE hb1); (try replace ha0 := ext_cell hE ha0); (try replace ha1 := ext_cell hE ha1); (try replace hbb0 := ext_cell hE hbb0); (try replace hbb1 := ext_cell hE hbb1); (try replace hc0 := ext_cell hE hc0); (try replace hc1 := ext_cell hE hc1); (try replace hd0 := ext_cell hE hd0); (try replace hd1 := ext_cell hE hd1); (try replace he0 := ext_cell hE he0); (try replace he1 := ext_cell hE he1)
    replace HE := Lib.hid (HE.out.trans hE)
    clear hE hE0
    replace la := block_lt_of_cell ha0
    go_wp2_with fail
    refine (load_x (hMa.ext ((Ext.refl w9).alloc _)) (i := i / 8 * 8) (s := 8) (.inr (.inr (.inr rfl))) (by omega) (by omega)).mono ?_
    rintro e w10 ⟨rfl, hE0⟩
    rw [hwd.out]
    have hE := ((Ext.refl w9).alloc _).trans hE0
    replace hMa := hMa.ext hE
    replace hMc := hMc.ext hE
    (try replace hb0 := ext_cell hE hb0); (try replace hb1 := ext_cell hE hb1); (try replace ha0 := ext_cell hE ha0); (try replace ha1 := ext_cell hE ha1); (try replace hbb0 := ext_cell hE hbb0); (try replace hbb1 := ext_cell hE hbb1); (try replace hc0 := ext_cell hE hc0); (try replace hc1 := ext_cell hE hc1); (try replace hd0 := ext_cell hE hd0); (try replace hd1 := ext_cell hE hd1); (try replace he0 := ext_cell hE he0); (try replace he1 := ext_cell hE he1)
    obtain ⟨hc0, hc1⟩ := box_mem hE0
    replace HE := Lib.hid (HE.out.trans hE)
    clear hE hE0
    go_wp2_with fail
    refine (same_x hMa hMc rfl).mono ?_
    rintro e w11 ⟨rfl, hE⟩
    replace hMa := hMa.ext hE
    (try replace hb0 := ext_cell hE hb0); (try replace hb1 := ext_cell hE hb1); (try replace ha0 := ext_cell hE ha0); (try replace ha1 := ext_cell hE ha1); (try replace hbb0 := ext_cell hE hbb0); (try replace hbb1 := ext_cell hE hbb1); (try replace hc0 := ext_cell hE hc0); (try replace hc1 := ext_cell hE hc1); (try replace hd0 := ext_cell hE hd0); (try replace hd1 := ext_cell hE hd1); (try replace he0 := ext_cell hE he0); (try replace he1 := ext_cell hE he1)
    replace HE := Lib.hid (HE.out.trans hE)
    clear hE
    go_wp2_with fail
    refine (word_x hMa (a := i) (by omega)).mono ?_
    rintro e w12 ⟨rfl, hE⟩
    replace HE := Lib.hid (HE.out.trans hE)
    clear hE
    go_wp2
    go_ret
    exact ⟨rfl, HE.out⟩
  · obtain ⟨i, hi, hi0, hi1⟩ : ∃ i : Nat, (at' : Int) % (S : Int) / 4 * 4 = (i : Int) ∧ i % 4 = 0 ∧ i < S := ⟨at' % S / 4 * 4, by rw [hmi]; omega, by omega, by omega⟩
    have hx := load_halves L i 2
    have hlo := loadL_lt L i 2
    have hhi := loadL_lt L (i + 2) 2
    obtain ⟨x, hX⟩ : ∃ x, x = loadL L i 4 := ⟨_, rfl⟩
    obtain ⟨lo, hLo⟩ : ∃ x, x = loadL L i 2 := ⟨_, rfl⟩
    obtain ⟨hg, hHi⟩ : ∃ x, x = loadL L (i + 2) 2 := ⟨_, rfl⟩
    have hx' : x = lo + hg * 65536 := by rw [hX, hLo, hHi, Nat.mul_comm]; exact hx
    rw [← hLo] at hlo
    rw [← hHi] at hhi
    have hlo' : lo < 65536 := hlo
    have hhi' : hg < 65536 := hhi
    have HX := Lib.hid hX
    have HLo := Lib.hid hLo
    have HHi := Lib.hid hHi
    have hh : Hid (storeL L i 4 v = storeL (storeL L i 2 v) (i + 2) 2 (v / 65536)) := Lib.hid (store_halves hM.rl (i := i) (h := 2) (by omega) (by omega) (.inr (.inl rfl)) (.inr (.inr (.inl rfl))) hi0 (by omega) (by omega) v)
    have hwd : Hid (loadL (storeL L i 4 v) (i / 8 * 8) 8 = wordL (storeL L i 4 v) (i / 8)) := Lib.hid (load_word (storeL_is hM.rl (by omega) 4 v) i)
    have l1 := storeL_len L i 4 v
    have l2 := storeL_len L i 2 v
    clear hmi hml hX hLo hHi hx hlo hhi
    go_enter Try.func8, Try.ntmps8
    go_wp2_with fail; refine (awake3_c _).mono ?_; rintro e w1 ⟨rfl, hE1⟩; obtain ⟨hb0, hb1⟩ := box_mem hE1; have HE := Lib.hid (((Ext.refl w).alloc _).trans hE1); clear hE1; go_wp2_with fail; refine (fits_c S A L c hS hL _ (hr.1.ext HE.out)).mono ?_; rintro e w2 ⟨rfl, hE⟩; replace hb0 := ext_cell hE hb0; replace hb1 := ext_cell hE hb1; replace HE := Lib.hid (HE.out.trans hE); clear hE; rw [hf]
    replace hM := hM.ext HE.out
    go_wp2_with fail
    refine (hps _).mono ?_
    rintro e w3 ⟨rfl, hE⟩
    (try replace hM := hM.ext hE); (try replace hMa := hMa.ext hE); (try replace hMb := hMb.ext hE); (try replace hMc := hMc.ext hE); (try replace hMd := hMd.ext hE); (try replace hMe := hMe.ext hE); (try replace hb0 := ext_cell hE hb0); (try replace hb1 := ext_cell hE hb1); (try replace ha0 := ext_cell hE ha0); (try replace ha1 := ext_cell hE ha1); (try replace hbb0 := ext_cell hE hbb0); (try replace hbb1 := ext_cell hE hbb1); (try replace hc0 := ext_cell hE hc0); (try replace hc1 := ext_cell hE hc1); (try replace hd0 := ext_cell hE hd0); (try replace hd1 := ext_cell hE hd1); (try replace he0 := ext_cell hE he0); (try replace he1 := ext_cell hE he1); replace HE := Lib.hid (HE.out.trans hE); clear hE
    go_wp2_with fail
    clear hi
    refine (load_x hM (s := 4) (.inr (.inr (.inl rfl))) hi0 hi1).mono ?_
    rintro e w4 ⟨rfl, hE⟩
    rw [← HX.out]
    (try replace hM := hM.ext hE); (try replace hMa := hMa.ext hE); (try replace hMb := hMb.ext hE); (try replace hMc := hMc.ext hE); (try replace hMd := hMd.ext hE); (try replace hMe := hMe.ext hE); (try replace hb0 := ext_cell hE hb0); (try replace hb1 := ext_cell hE hb1); (try replace ha0 := ext_cell hE ha0); (try replace ha1 := ext_cell hE ha1); (try replace hbb0 := ext_cell hE hbb0); (try replace hbb1 := ext_cell hE hbb1); (try replace hc0 := ext_cell hE hc0); (try replace hc1 := ext_cell hE hc1); (try replace hd0 := ext_cell hE hd0); (try replace hd1 := ext_cell hE hd1); (try replace he0 := ext_cell hE he0); (try replace he1 := ext_cell hE he1); replace HE := Lib.hid (HE.out.trans hE); clear hE
    go_wp2_with fail
    refine (load_x hM (s := 2) (.inr (.inl rfl)) (by omega) hi1).mono ?_
    rintro e w5 ⟨rfl, hE⟩
    rw [← HLo.out]
    (try replace hM := hM.ext hE); (try replace hMa := hMa.ext hE); (try replace hMb := hMb.ext hE); (try replace hMc := hMc.ext hE); (try replace hMd := hMd.ext hE); (try replace hMe := hMe.ext hE); (try replace hb0 := ext_cell hE hb0); (try replace hb1 := ext_cell hE hb1); (try replace ha0 := ext_cell hE ha0); (try replace ha1 := ext_cell hE ha1); (try replace hbb0 := ext_cell hE hbb0); (try replace hbb1 := ext_cell hE hbb1); (try replace hc0 := ext_cell hE hc0); (try replace hc1 := ext_cell hE hc1); (try replace hd0 := ext_cell hE hd0); (try replace hd1 := ext_cell hE hd1); (try replace he0 := ext_cell hE he0); (try replace he1 := ext_cell hE he1); replace HE := Lib.hid (HE.out.trans hE); clear hE
    go_wp2_with fail
    refine (load_x hM (i := i + 2) (s := 2) (.inr (.inl rfl)) (by omega) (by omega)).mono ?_
    rintro e w6 ⟨rfl, hE⟩
    rw [← HHi.out]
    (try replace hM := hM.ext hE); (try replace hMa := hMa.ext hE); (try replace hMb := hMb.ext hE); (try replace hMc := hMc.ext hE); (try replace hMd := hMd.ext hE); (try replace hMe := hMe.ext hE); (try replace hb0 := ext_cell hE hb0); (try replace hb1 := ext_cell hE hb1); (try replace ha0 := ext_cell hE ha0); (try replace ha1 := ext_cell hE ha1); (try replace hbb0 := ext_cell hE hbb0); (try replace hbb1 := ext_cell hE hbb1); (try replace hc0 := ext_cell hE hc0); (try replace hc1 := ext_cell hE hc1); (try replace hd0 := ext_cell hE hd0); (try replace hd1 := ext_cell hE hd1); (try replace he0 := ext_cell hE he0); (try replace he1 := ext_cell hE he1); replace HE := Lib.hid (HE.out.trans hE); clear hE
    go_wp2_with fail
    refine (store_x hM (s := 4) v1 (.inr (.inr (.inl rfl))) hi0 hi1 (by omega)).mono ?_
    rintro e w7 ⟨A1, c1, rfl, hMa, hE⟩
    replace hM := hM.ext hE
    (try replace hb0 := ext_cell hE hb0); (try replace hb1 := ext_cell hE hb1); (try replace ha0 := ext_cell hE ha0); (try replace ha1 := ext_cell hE ha1); (try replace hbb0 := ext_cell hE hbb0); (try replace hbb1 := ext_cell hE hbb1); (try replace hc0 := ext_cell hE hc0); (try replace hc1 := ext_cell hE hc1); (try replace hd0 := ext_cell hE hd0); (try replace hd1 := ext_cell hE hd1); (try replace he0 := ext_cell hE he0); (try replace he1 := ext_cell hE he1)
    replace HE := Lib.hid (HE.out.trans hE)
    clear hE
    have lm := block_lt_of_cell hb0
    go_wp2_with fail
    refine (store_x (hM.ext ((Ext.refl w7).alloc _)) (s := 2) v1 (.inr (.inl rfl)) (by omega) hi1 (by omega)).mono ?_
    rintro e w8 ⟨A2, c2, rfl, hMb, hE0⟩
    have hE := ((Ext.refl w7).alloc _).trans hE0
    replace hM := hM.ext hE
    replace hMa := hMa.ext hE
    (try replace hb0 := ext_cell hE hb0); (try replace hb1 := ext_cell hE hb1); (try replace ha0 := ext_cell hE ha0); (try replace ha1 := ext_cell hE ha1); (try replace hbb0 := ext_cell hE hbb0); (try replace hbb1 := ext_cell hE hbb1); (try replace hc0 := ext_cell hE hc0); (try replace hc1 := ext_cell hE hc1); (try replace hd0 := ext_cell hE hd0); (try replace hd1 := ext_cell hE hd1); (try replace he0 := ext_cell hE he0); (try replace he1 := ext_cell hE he1)
    obtain ⟨ha0, ha1⟩ := box_mem hE0
    replace HE := Lib.hid (HE.out.trans hE)
    clear hE hE0
    have la := block_lt_of_cell ha0
    go_wp2_with fail
    refine (store_x (hMb.ext ((Ext.refl w8).alloc _)) (i := i + 2) (s := 2) (v := v / 65536) (by omega) (.inr (.inl rfl)) (by omega) (by omega) (by omega)).mono ?_
    rintro e w9 ⟨A3, c3, rfl, hMc, hE0⟩
    rw [← hh.out] at hMc ⊢
    have hE := ((Ext.refl w8).alloc _).trans hE0
    replace hMa := hMa.ext hE
    (try replace hb0 := ext_cell hE hb0); (try replace hb1 := ext_cell hE hb1); (try replace ha0 := ext_cell hE ha0); (try replace ha1 := ext_cell hE ha1); (try replace hbb0 := ext_cell hE hbb0); (try replace hbb1 := ext_cell hE hbb1); (try replace hc0 := ext_cell hE hc0); (try replace hc1 := ext_cell hE hc1); (try replace hd0 := ext_cell hE hd0); (try replace hd1 := ext_cell hE hd1); (try replace he0 := ext_cell hE he0); (try replace he1 := ext_cell hE he1)
    replace HE := Lib.hid (HE.out.trans hE)
    clear hE hE0
    replace la := block_lt_of_cell ha0
    go_wp2_with fail
    refine (load_x (hMa.ext ((Ext.refl w9).alloc _)) (i := i / 8 * 8) (s := 8) (.inr (.inr (.inr rfl))) (by omega) (by omega)).mono ?_
    rintro e w10 ⟨rfl, hE0⟩
    rw [hwd.out]
    have hE := ((Ext.refl w9).alloc _).trans hE0
    replace hMa := hMa.ext hE
    replace hMc := hMc.ext hE
    (try replace hb0 := ext_cell hE hb0); (try replace hb1 := ext_cell hE hb1); (try replace ha0 := ext_cell hE ha0); (try replace ha1 := ext_cell hE ha1); (try replace hbb0 := ext_cell hE hbb0); (try replace hbb1 := ext_cell hE hbb1); (try replace hc0 := ext_cell hE hc0); (try replace hc1 := ext_cell hE hc1); (try replace hd0 := ext_cell hE hd0); (try replace hd1 := ext_cell hE hd1); (try replace he0 := ext_cell hE he0); (try replace he1 := ext_cell hE he1)
    obtain ⟨hc0, hc1⟩ := box_mem hE0
    replace HE := Lib.hid (HE.out.trans hE)
    clear hE hE0
    go_wp2_with fail
    refine (same_x hMa hMc rfl).mono ?_
    rintro e w11 ⟨rfl, hE⟩
    replace hMa := hMa.ext hE
    (try replace hb0 := ext_cell hE hb0); (try replace hb1 := ext_cell hE hb1); (try replace ha0 := ext_cell hE ha0); (try replace ha1 := ext_cell hE ha1); (try replace hbb0 := ext_cell hE hbb0); (try replace hbb1 := ext_cell hE hbb1); (try replace hc0 := ext_cell hE hc0); (try replace hc1 := ext_cell hE hc1); (try replace hd0 := ext_cell hE hd0); (try replace hd1 := ext_cell hE hd1); (try replace he0 := ext_cell hE he0); (try replace he1 := ext_cell hE he1)
    replace HE := Lib.hid (HE.out.trans hE)
    clear hE
    go_wp2_with fail
    refine (word_x hMa (a := i) (by omega)).mono ?_
    rintro e w12 ⟨rfl, hE⟩
    replace HE := Lib.hid (HE.out.trans hE)
    clear hE
    go_wp2
    go_ret
    exact ⟨rfl, HE.out⟩
  · obtain ⟨i, hi, hi0, hi1⟩ : ∃ i : Nat, (at' : Int) % (S : Int) / 8 * 8 = (i : Int) ∧ i % 8 = 0 ∧ i < S := ⟨at' % S / 8 * 8, by rw [hmi]; omega, by omega, by omega⟩
    have hx := load_halves L i 4
    have hlo := loadL_lt L i 4
    have hhi := loadL_lt L (i + 4) 4
    obtain ⟨x, hX⟩ : ∃ x, x = loadL L i 8 := ⟨_, rfl⟩
    obtain ⟨lo, hLo⟩ : ∃ x, x = loadL L i 4 := ⟨_, rfl⟩
    obtain ⟨hg, hHi⟩ : ∃ x, x = loadL L (i + 4) 4 := ⟨_, rfl⟩
    have hx' : x = lo + hg * 4294967296 := by rw [hX, hLo, hHi, Nat.mul_comm]; exact hx
    rw [← hLo] at hlo
    rw [← hHi] at hhi
    have hlo' : lo < 4294967296 := hlo
    have hhi' : hg < 4294967296 := hhi
    have HX := Lib.hid hX
    have HLo := Lib.hid hLo
    have HHi := Lib.hid hHi
    have hh : Hid (storeL L i 8 v = storeL (storeL L i 4 v) (i + 4) 4 (v / 4294967296)) := Lib.hid (store_halves hM.rl (i := i) (h := 4) (by omega) (by omega) (.inr (.inr (.inl rfl))) (.inr (.inr (.inr rfl))) hi0 (by omega) (by omega) v)
    have hwd : Hid (loadL (storeL L i 8 v) (i / 8 * 8) 8 = wordL (storeL L i 8 v) (i / 8)) := Lib.hid (load_word (storeL_is hM.rl (by omega) 8 v) i)
    have l1 := storeL_len L i 8 v
    have l2 := storeL_len L i 4 v
    clear hmi hml hX hLo hHi hx hlo hhi
    go_enter Try.func8, Try.ntmps8
    go_wp2_with fail; refine (awake3_c _).mono ?_; rintro e w1 ⟨rfl, hE1⟩; obtain ⟨hb0, hb1⟩ := box_mem hE1; have HE := Lib.hid (((Ext.refl w).alloc _).trans hE1); clear hE1; go_wp2_with fail; refine (fits_c S A L c hS hL _ (hr.1.ext HE.out)).mono ?_; rintro e w2 ⟨rfl, hE⟩; replace hb0 := ext_cell hE hb0; replace hb1 := ext_cell hE hb1; replace HE := Lib.hid (HE.out.trans hE); clear hE; rw [hf]
    replace hM := hM.ext HE.out
    go_wp2_with fail
    refine (hps _).mono ?_
    rintro e w3 ⟨rfl, hE⟩
    (try replace hM := hM.ext hE); (try replace hMa := hMa.ext hE); (try replace hMb := hMb.ext hE); (try replace hMc := hMc.ext hE); (try replace hMd := hMd.ext hE); (try replace hMe := hMe.ext hE); (try replace hb0 := ext_cell hE hb0); (try replace hb1 := ext_cell hE hb1); (try replace ha0 := ext_cell hE ha0); (try replace ha1 := ext_cell hE ha1); (try replace hbb0 := ext_cell hE hbb0); (try replace hbb1 := ext_cell hE hbb1); (try replace hc0 := ext_cell hE hc0); (try replace hc1 := ext_cell hE hc1); (try replace hd0 := ext_cell hE hd0); (try replace hd1 := ext_cell hE hd1); (try replace he0 := ext_cell hE he0); (try replace he1 := ext_cell hE he1); replace HE := Lib.hid (HE.out.trans hE); clear hE
    go_wp2_with fail
    clear hi
    refine (load_x hM (s := 8) (.inr (.inr (.inr rfl))) hi0 hi1).mono ?_
    rintro e w4 ⟨rfl, hE⟩
    rw [← HX.out]
    (try replace hM := hM.ext hE); (try replace hMa := hMa.ext hE); (try replace hMb := hMb.ext hE); (try replace hMc := hMc.ext hE); (try replace hMd := hMd.ext hE); (try replace hMe := hMe.ext hE); (try replace hb0 := ext_cell hE hb0); (try replace hb1 := ext_cell hE hb1); (try replace ha0 := ext_cell hE ha0); (try replace ha1 := ext_cell hE ha1); (try replace hbb0 := ext_cell hE hbb0); (try replace hbb1 := ext_cell hE hbb1); (try replace hc0 := ext_cell hE hc0); (try replace hc1 := ext_cell hE hc1); (try replace hd0 := ext_cell hE hd0); (try replace hd1 := ext_cell hE hd1); (try replace he0 := ext_cell hE he0); (try replace he1 := ext_cell hE he1); replace HE := Lib.hid (HE.out.trans hE); clear hE
    go_wp2_with fail
    refine (load_x hM (s := 4) (.inr (.inr (.inl rfl))) (by omega) hi1).mono ?_
    rintro e w5 ⟨rfl, hE⟩
    rw [← HLo.out]
    (try replace hM := hM.ext hE); (try replace hMa := hMa.ext hE); (try replace hMb := hMb.ext hE); (try replace hMc := hMc.ext hE); (try replace hMd := hMd.ext hE); (try replace hMe := hMe.ext hE); (try replace hb0 := ext_cell hE hb0); (try replace hb1 := ext_cell hE hb1); (try replace ha0 := ext_cell hE ha0); (try replace ha1 := ext_cell hE ha1); (try replace hbb0 := ext_cell hE hbb0); (try replace hbb1 := ext_cell hE hbb1); (try replace hc0 := ext_cell hE hc0); (try replace hc1 := ext_cell hE hc1); (try replace hd0 := ext_cell hE hd0); (try replace hd1 := ext_cell hE hd1); (try replace he0 := ext_cell hE he0); (try replace he1 := ext_cell hE he1); replace HE := Lib.hid (HE.out.trans hE); clear hE
    go_wp2_with fail
    refine (load_x hM (i := i + 4) (s := 4) (.inr (.inr (.inl rfl))) (by omega) (by omega)).mono ?_
    rintro e w6 ⟨rfl, hE⟩
    rw [← HHi.out]
    (try replace hM := hM.ext hE); (try replace hMa := hMa.ext hE); (try replace hMb := hMb.ext hE); (try replace hMc := hMc.ext hE); (try replace hMd := hMd.ext hE); (try replace hMe := hMe.ext hE); (try replace hb0 := ext_cell hE hb0); (try replace hb1 := ext_cell hE hb1); (try replace ha0 := ext_cell hE ha0); (try replace ha1 := ext_cell hE ha1); (try replace hbb0 := ext_cell hE hbb0); (try replace hbb1 := ext_cell hE hbb1); (try replace hc0 := ext_cell hE hc0); (try replace hc1 := ext_cell hE hc1); (try replace hd0 := ext_cell hE hd0); (try replace hd1 := ext_cell hE hd1); (try replace he0 := ext_cell hE he0); (try replace he1 := ext_cell hE he1); replace HE := Lib.hid (HE.out.trans hE); clear hE
    go_wp2_with fail
    refine (store_x hM (s := 8) v1 (.inr (.inr (.inr rfl))) hi0 hi1 (by omega)).mono ?_
    rintro e w7 ⟨A1, c1, rfl, hMa, hE⟩
    replace hM := hM.ext hE
    (try replace hb0 := ext_cell hE hb0); (try replace hb1 := ext_cell hE hb1); (try replace ha0 := ext_cell hE ha0); (try replace ha1 := ext_cell hE ha1); (try replace hbb0 := ext_cell hE hbb0); (try replace hbb1 := ext_cell hE hbb1); (try replace hc0 := ext_cell hE hc0); (try replace hc1 := ext_cell hE hc1); (try replace hd0 := ext_cell hE hd0); (try replace hd1 := ext_cell hE hd1); (try replace he0 := ext_cell hE he0); (try replace he1 := ext_cell hE he1)
    replace HE := Lib.hid (HE.out.trans hE)
    clear hE
    have lm := block_lt_of_cell hb0
    go_wp2_with fail
    refine (store_x (hM.ext ((Ext.refl w7).alloc _)) (s := 4) v1 (.inr (.inr (.inl rfl))) (by omega) hi1 (by omega)).mono ?_
    rintro e w8 ⟨A2, c2, rfl, hMb, hE0⟩
    have hE := ((Ext.refl w7).alloc _).trans hE0
    replace hM := hM.ext hE
    replace hMa := hMa.ext hE
    (try replace hb0 := ext_cell hE hb0); (try replace hb1 := ext_cell hE hb1); (try replace ha0 := ext_cell hE ha0); (try replace ha1 := ext_cell hE ha1); (try replace hbb0 := ext_cell hE hbb0); (try replace hbb1 := ext_cell hE hbb1); (try replace hc0 := ext_cell hE hc0); (try replace hc1 := ext_cell hE hc1); (try replace hd0 := ext_cell hE hd0); (try replace hd1 := ext_cell hE hd1); (try replace he0 := ext_cell hE he0); (try replace he1 := ext_cell hE he1)
    obtain ⟨ha0, ha1⟩ := box_mem hE0
    replace HE := Lib.hid (HE.out.trans hE)
    clear hE hE0
    have la := block_lt_of_cell ha0
    go_wp2_with fail
    refine (store_x (hMb.ext ((Ext.refl w8).alloc _)) (i := i + 4) (s := 4) (v := v / 4294967296) (by omega) (.inr (.inr (.inl rfl))) (by omega) (by omega) (by omega)).mono ?_
    rintro e w9 ⟨A3, c3, rfl, hMc, hE0⟩
    rw [← hh.out] at hMc ⊢
    have hE := ((Ext.refl w8).alloc _).trans hE0
    replace hMa := hMa.ext hE
    (try replace hb0 := ext_cell hE hb0); (try replace hb1 := ext_cell hE hb1); (try replace ha0 := ext_cell hE ha0); (try replace ha1 := ext_cell hE ha1); (try replace hbb0 := ext_cell hE hbb0); (try replace hbb1 := ext_cell hE hbb1); (try replace hc0 := ext_cell hE hc0); (try replace hc1 := ext_cell hE hc1); (try replace hd0 := ext_cell hE hd0); (try replace hd1 := ext_cell hE hd1); (try replace he0 := ext_cell hE he0); (try replace he1 := ext_cell hE he1)
    replace HE := Lib.hid (HE.out.trans hE)
    clear hE hE0
    replace la := block_lt_of_cell ha0
    go_wp2_with fail
    refine (load_x (hMa.ext ((Ext.refl w9).alloc _)) (i := i / 8 * 8) (s := 8) (.inr (.inr (.inr rfl))) (by omega) (by omega)).mono ?_
    rintro e w10 ⟨rfl, hE0⟩
    rw [hwd.out]
    have hE := ((Ext.refl w9).alloc _).trans hE0
    replace hMa := hMa.ext hE
    replace hMc := hMc.ext hE
    (try replace hb0 := ext_cell hE hb0); (try replace hb1 := ext_cell hE hb1); (try replace ha0 := ext_cell hE ha0); (try replace ha1 := ext_cell hE ha1); (try replace hbb0 := ext_cell hE hbb0); (try replace hbb1 := ext_cell hE hbb1); (try replace hc0 := ext_cell hE hc0); (try replace hc1 := ext_cell hE hc1); (try replace hd0 := ext_cell hE hd0); (try replace hd1 := ext_cell hE hd1); (try replace he0 := ext_cell hE he0); (try replace he1 := ext_cell hE he1)
    obtain ⟨hc0, hc1⟩ := box_mem hE0
    replace HE := Lib.hid (HE.out.trans hE)
    clear hE hE0
    go_wp2_with fail
    refine (same_x hMa hMc rfl).mono ?_
    rintro e w11 ⟨rfl, hE⟩
    replace hMa := hMa.ext hE
    (try replace hb0 := ext_cell hE hb0); (try replace hb1 := ext_cell hE hb1); (try replace ha0 := ext_cell hE ha0); (try replace ha1 := ext_cell hE ha1); (try replace hbb0 := ext_cell hE hbb0); (try replace hbb1 := ext_cell hE hbb1); (try replace hc0 := ext_cell hE hc0); (try replace hc1 := ext_cell hE hc1); (try replace hd0 := ext_cell hE hd0); (try replace hd1 := ext_cell hE hd1); (try replace he0 := ext_cell hE he0); (try replace he1 := ext_cell hE he1)
    replace HE := Lib.hid (HE.out.trans hE)
    clear hE
    go_wp2_with fail
    refine (word_x hMa (a := i) (by omega)).mono ?_
    rintro e w12 ⟨rfl, hE⟩
    replace HE := Lib.hid (HE.out.trans hE)
    clear hE
    go_wp2
    go_ret
    exact ⟨rfl, HE.out⟩
end Go.Proofs.Ytcodgmahegofjaa
