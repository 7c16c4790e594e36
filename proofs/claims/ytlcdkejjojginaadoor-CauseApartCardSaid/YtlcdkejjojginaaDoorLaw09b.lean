/- CauseSteps. -/
import Derived.Test.YtlcdkejjojginaaDoorLaw09a
import Derived.Laws.Strings
namespace Go.Proofs.YtlcdkejjojginaaDoor
open Go.ChangeShapes Go.WideShapes Go.ChangeAt Go.RowKit
set_option linter.unusedVariables false
set_option linter.unusedSimpArgs false

theorem nam_apart {q r : Nat} (hq : q < 9) (hr : r < 9) (h : q ≠ r) : ((namB q).toList == (namB r).toList) = false := by
  rw [beq_eq_false_iff_ne]
  intro e
  rw [ByteArray.toList_eq, ByteArray.toList_eq] at e
  exact h (nam_inj hq hr (bytes_inj e))
theorem nam_word {q : Nat} (hq : q < 9) : ((namB q).toList == []) = false := by
  rw [beq_eq_false_iff_ne]
  intro e
  rw [ByteArray.toList_eq] at e
  exact nam_some hq (bytes_inj (by rw [e]))
set_option maxRecDepth 100000 in
set_option maxHeartbeats 4000000 in
theorem CauseSteps_w (n a : Nat) (z : Int) (hn : n < 256) (w : World) (hT : Tabs w) :
    Calls Tryd.prog 6 #[.int .u8 (n : Int), .int .u64 (a : Int), .int .i64 z] w fun e w' => e = .returned (.bool true) ∧ Ext w w' := by
  have hk : n % 3 < 3 := Nat.mod_lt _ (by decide)
  have e3 : ((n % 3 : Nat) : Int) = (n : Int) % 3 := by omega
  have ho := fun w h => odd_l (n % 3) hk a w h
  have hx := fun w h => access_l (n % 3) hk a w h
  have hp := fun w h => page_l (n % 3) hk a w h
  rw [e3] at ho hx hp
  rw [cau_next hk] at hx
  have c12 : decide (12 ≤ cauI (6 + n % 3)) = true := by simpa using cau_page hk
  obtain ⟨l0, l1⟩ := cau_lt (n % 3)
  obtain ⟨l2, l3⟩ := cau_lt (6 + n % 3)
  generalize cauI (n % 3) = c0 at ho hx l0 l1
  generalize cauI (6 + n % 3) = c2 at hp c12 l2 l3
  clear hk e3
  have hs := sort9_c z
  have hna := name9_c z
  have hpos := fun (q : Nat) (hq : q < 9) => pos_beq z hq
  have hle := pos_le z
  generalize posN z = m at hs hna hpos hle
  have P := Lib.hid hpos
  have HE := Lib.hid (Ext.refl w)
  have HT := Lib.hid hT
  clear hT hpos
  go_enter Tryd.func6, Tryd.ntmps6
  go_wp2_with fail
  refine (awake9_c _ HT.out).mono ?_
  rintro e w5 ⟨rfl, hE⟩
  replace HE := Lib.hid (HE.out.trans hE)
  replace HT := Lib.hid (HT.out.ext hE)
  clear hE
  go_wp2_with fail
  refine (ho _ HT.out).mono ?_
  rintro e w1 ⟨rfl, hE⟩
  replace HE := Lib.hid ((HE.out.trans hE).alloc (.cells #[.bool true, .int .i64 c0, .int .u64 (a : Int)] 25))
  replace HT := Lib.hid ((HT.out.ext hE).ext ((Ext.refl w1).alloc (.cells #[.bool true, .int .i64 c0, .int .u64 (a : Int)] 25)))
  have hb := Blk.new w1 25 #[.bool true, .int .i64 c0, .int .u64 (a : Int)]
  clear hE ho
  go_wp2_with fail
  refine (hx _ HT.out).mono ?_
  rintro e w2 ⟨rfl, hE⟩
  replace HE := Lib.hid ((HE.out.trans hE).alloc (.cells #[.bool true, .int .i64 (c0 + 1), .int .u64 (a : Int)] 25))
  replace HT := Lib.hid ((HT.out.ext hE).ext ((Ext.refl w2).alloc (.cells #[.bool true, .int .i64 (c0 + 1), .int .u64 (a : Int)] 25)))
  replace hb := (hb.ext hE).alloc (.cells #[.bool true, .int .i64 (c0 + 1), .int .u64 (a : Int)] 25)
  have hc := Blk.new w2 25 #[.bool true, .int .i64 (c0 + 1), .int .u64 (a : Int)]
  clear hE hx
  go_wp2_with fail
  refine (hp _ HT.out).mono ?_
  rintro e w3 ⟨rfl, hE⟩
  replace HE := Lib.hid ((HE.out.trans hE).alloc (.cells #[.bool true, .int .i64 c2, .int .u64 (a : Int)] 25))
  replace HT := Lib.hid ((HT.out.ext hE).ext ((Ext.refl w3).alloc (.cells #[.bool true, .int .i64 c2, .int .u64 (a : Int)] 25)))
  replace hb := (hb.ext hE).alloc (.cells #[.bool true, .int .i64 c2, .int .u64 (a : Int)] 25)
  replace hc := (hc.ext hE).alloc (.cells #[.bool true, .int .i64 c2, .int .u64 (a : Int)] 25)
  have hd := Blk.new w3 25 #[.bool true, .int .i64 c2, .int .u64 (a : Int)]
  clear hE hp
  go_wp2_with fail
  refine (hs _ HT.out).mono ?_
  rintro e w5 ⟨rfl, hE⟩
  replace HE := Lib.hid (HE.out.trans hE)
  replace HT := Lib.hid (HT.out.ext hE)
  replace hb := hb.ext hE
  replace hc := hc.ext hE
  replace hd := hd.ext hE
  clear hE
  clear hs
  go_wp2
  go_loopw [13, 14] (fun kn c wr => ∃ i : Nat, i ≤ 3 ∧ c = .int .i64 i ∧ kn = .bool (decide (m < 9) && decide (m % 3 < i)) ∧ Blk wr w1.heap.size 25 #[.bool true, .int .i64 c0, .int .u64 (a : Int)] ∧ Blk wr w2.heap.size 25 #[.bool true, .int .i64 (c0 + 1), .int .u64 (a : Int)] ∧ Blk wr w3.heap.size 25 #[.bool true, .int .i64 c2, .int .u64 (a : Int)] ∧ Tabs wr ∧ Ext w wr) (fun _ c _ => 3 - (intOf c).toNat)
  case atStart => exact ⟨0, by omega, rfl, by simp, hb, hc, hd, HT.out, HE.out⟩
  case round =>
    clear hb hc hd HT HE
    obtain ⟨i, hi, rfl, rfl, hb, hc, hd, hT, hE0⟩ := hrel
    have HT := Lib.hid hT
    have HE := Lib.hid hE0
    clear hT hE0
    by_cases hil : i < 3
    · have g0 := odd_l i hil 0
      have g1 := access_l i hil 0
      have g2 := page_l i hil 0
      have t0 := P.out i (by omega)
      have t1 := P.out (3 + i) (by omega)
      have t2 := P.out (6 + i) (by omega)
      have f0 := fld_cause true (cauI i) 0
      have f1 := fld_cause true (cauI (3 + i)) 0
      have f2 := fld_cause true (cauI (6 + i)) 0
      generalize cauI i = x0 at g0 t0 f0
      generalize cauI (3 + i) = x1 at g1 t1 f1
      generalize cauI (6 + i) = x2 at g2 t2 f2
      by_cases hkn : (decide (m < 9) && decide (m % 3 < i)) = true
      · have ht2 : (decide (m < 9) && decide (m % 3 < i + 1)) = true := by simp at hkn ⊢; omega
        rw [hkn]
        clear hkn t0 t1 t2
        go_wp2
        go_roundw
        case rel => exact ⟨i + 1, by omega, by go_num, by rw [show (decide (m < 9) && decide (m % 3 < i + 1)) = true from ht2], hb, hc, hd, HT.out, HE.out⟩
        case measure => simp [intOf]; omega
      · have hkn2 : (decide (m < 9) && decide (m % 3 < i)) = false := by simpa using hkn
        rw [hkn2]
        by_cases h0 : m = i
        · have ht2 : (decide (m < 9) && decide (m % 3 < i + 1)) = true := by simp; omega
          rw [decide_eq_true h0] at t0
          clear h0 hkn hkn2 t1 t2
          go_wp2_with fail
          refine (g0 _ HT.out).mono ?_
          rintro e w5 ⟨rfl, hE⟩
          replace HE := Lib.hid (HE.out.trans hE)
          replace HT := Lib.hid (HT.out.ext hE)
          replace hb := hb.ext hE
          replace hc := hc.ext hE
          replace hd := hd.ext hE
          clear hE
          go_wp2
          go_roundw
          case rel => exact ⟨i + 1, by omega, by go_num, by rw [show (decide (m < 9) && decide (m % 3 < i + 1)) = true from ht2], hb, hc, hd, HT.out, HE.out⟩
          case measure => simp [intOf]; omega
        rw [decide_eq_false h0] at t0
        by_cases h1 : m = 3 + i
        · have ht2 : (decide (m < 9) && decide (m % 3 < i + 1)) = true := by simp; omega
          rw [decide_eq_true h1] at t1
          clear h1 h0 hkn hkn2 t2
          go_wp2_with fail
          refine (g0 _ HT.out).mono ?_
          rintro e w5 ⟨rfl, hE⟩
          replace HE := Lib.hid (HE.out.trans hE)
          replace HT := Lib.hid (HT.out.ext hE)
          replace hb := hb.ext hE
          replace hc := hc.ext hE
          replace hd := hd.ext hE
          clear hE
          go_wp2_with fail
          refine (g1 _ HT.out).mono ?_
          rintro e w5 ⟨rfl, hE⟩
          replace HE := Lib.hid (HE.out.trans hE)
          replace HT := Lib.hid (HT.out.ext hE)
          replace hb := hb.ext hE
          replace hc := hc.ext hE
          replace hd := hd.ext hE
          clear hE
          go_wp2
          go_roundw
          case rel => exact ⟨i + 1, by omega, by go_num, by rw [show (decide (m < 9) && decide (m % 3 < i + 1)) = true from ht2], hb, hc, hd, HT.out, HE.out⟩
          case measure => simp [intOf]; omega
        rw [decide_eq_false h1] at t1
        by_cases h2 : m = 6 + i
        · have ht2 : (decide (m < 9) && decide (m % 3 < i + 1)) = true := by simp; omega
          rw [decide_eq_true h2] at t2
          clear h2 h1 h0 hkn hkn2
          go_wp2_with fail
          refine (g0 _ HT.out).mono ?_
          rintro e w5 ⟨rfl, hE⟩
          replace HE := Lib.hid (HE.out.trans hE)
          replace HT := Lib.hid (HT.out.ext hE)
          replace hb := hb.ext hE
          replace hc := hc.ext hE
          replace hd := hd.ext hE
          clear hE
          go_wp2_with fail
          refine (g1 _ HT.out).mono ?_
          rintro e w5 ⟨rfl, hE⟩
          replace HE := Lib.hid (HE.out.trans hE)
          replace HT := Lib.hid (HT.out.ext hE)
          replace hb := hb.ext hE
          replace hc := hc.ext hE
          replace hd := hd.ext hE
          clear hE
          go_wp2_with fail
          refine (g2 _ HT.out).mono ?_
          rintro e w5 ⟨rfl, hE⟩
          replace HE := Lib.hid (HE.out.trans hE)
          replace HT := Lib.hid (HT.out.ext hE)
          replace hb := hb.ext hE
          replace hc := hc.ext hE
          replace hd := hd.ext hE
          clear hE
          go_wp2
          go_roundw
          case rel => exact ⟨i + 1, by omega, by go_num, by rw [show (decide (m < 9) && decide (m % 3 < i + 1)) = true from ht2], hb, hc, hd, HT.out, HE.out⟩
          case measure => simp [intOf]; omega
        rw [decide_eq_false h2] at t2
        have ht2 : (decide (m < 9) && decide (m % 3 < i + 1)) = false := by simp at hkn2 ⊢; omega
        clear h2 h1 h0 hkn hkn2
        go_wp2_with fail
        refine (g0 _ HT.out).mono ?_
        rintro e w5 ⟨rfl, hE⟩
        replace HE := Lib.hid (HE.out.trans hE)
        replace HT := Lib.hid (HT.out.ext hE)
        replace hb := hb.ext hE
        replace hc := hc.ext hE
        replace hd := hd.ext hE
        clear hE
        go_wp2_with fail
        refine (g1 _ HT.out).mono ?_
        rintro e w5 ⟨rfl, hE⟩
        replace HE := Lib.hid (HE.out.trans hE)
        replace HT := Lib.hid (HT.out.ext hE)
        replace hb := hb.ext hE
        replace hc := hc.ext hE
        replace hd := hd.ext hE
        clear hE
        go_wp2_with fail
        refine (g2 _ HT.out).mono ?_
        rintro e w5 ⟨rfl, hE⟩
        replace HE := Lib.hid (HE.out.trans hE)
        replace HT := Lib.hid (HT.out.ext hE)
        replace hb := hb.ext hE
        replace hc := hc.ext hE
        replace hd := hd.ext hE
        clear hE
        go_wp2
        go_roundw
        case rel => exact ⟨i + 1, by omega, by go_num, by rw [show (decide (m < 9) && decide (m % 3 < i + 1)) = false from ht2], hb, hc, hd, HT.out, HE.out⟩
        case measure => simp [intOf]; omega
    · obtain rfl : i = 3 := by omega
      obtain ⟨b0, b1, b2⟩ := hb.c3
      obtain ⟨c0', c1', c2'⟩ := hc.c3
      obtain ⟨d0, d1, d2⟩ := hd.c3
      by_cases hm : m < 9
      · have kn : (decide (m < 9) && decide (m % 3 < 3)) = true := by simp; omega
        rw [kn]
        have s1 : (srtI m == 0) = false := by rw [beq_eq_false_iff_ne]; unfold srtI; rw [if_pos hm]; omega
        have s2 : (srtI m != 0) = true := by rw [bne, s1]; rfl
        have nw := nam_word hm
        have nw2 : (!((namB m).toList == [])) = true := by rw [nw]; rfl
        have nw3 : (namB m).toList.isEmpty = false := by
          cases hh : (namB m).toList with
          | nil => rw [hh] at nw; simp at nw
          | cons _ _ => rfl
        generalize srtI m = s at s1 s2 ⊢
        generalize kndI m = k
        generalize namB m = b at hna nw nw2 nw3
        clear kn hm
        go_wp2_with fail
        refine (hna _ HT.out).mono ?_
        rintro e w5 ⟨rfl, hE⟩
        replace HE := Lib.hid (HE.out.trans hE)
        replace HT := Lib.hid (HT.out.ext hE)
        clear hE
        go_wp2
        go_ret
        exact ⟨rfl, HE.out⟩
      · obtain rfl : m = 9 := by omega
        rw [show srtI 9 = 0 from by simp [srtI], show kndI 9 = 0 from by simp [kndI], show (decide (9 < 9) && decide (9 % 3 < 3)) = false from rfl]
        rw [nam_none] at hna
        go_wp2_with fail
        refine (hna _ HT.out).mono ?_
        rintro e w5 ⟨rfl, hE⟩
        replace HE := Lib.hid (HE.out.trans hE)
        replace HT := Lib.hid (HT.out.ext hE)
        clear hE
        go_wp2
        go_ret
        exact ⟨rfl, HE.out⟩
end Go.Proofs.YtlcdkejjojginaaDoor
