/- PoolTakes. -/
import Derived.Test.YtdiffllpoappfaaDoorLaw04c
import Derived.Test.YtdiffllpoappfaaDoorMtak
import Derived.Test.YtdiffllpoappfaaDoorSlb
namespace Go.Proofs.YtdiffllpoappfaaDoor
open Go.ChangeShapes Go.WideShapes Go.ChangeAt Go.RowKit
set_option linter.unusedVariables false
set_option linter.unusedSimpArgs false

theorem tak_is {B n F : Nat} {tk : Nat → Bool} {out : Nat} (h : TakSt n F tk out) (k : Nat) : isB B n F (B + k) = (decide (k < n) && tk k) := by
  unfold isB
  by_cases hk : k < n
  · have h4 : F.testBit k = !tk k := by unfold TakSt at h; exact h.2.2.2 k hk
    rw [show B + k - B = k by omega, h4]; simp [hk]
  · simp [hk]
theorem tak_lt {n F : Nat} {tk : Nat → Bool} {out : Nat} (h : TakSt n F tk out) : n ≤ 64 ∧ F < 2 ^ n ∧ F < 18446744073709551616 := by
  have h64 := h.lt64
  unfold TakSt at h; exact ⟨h.1, h.2.1, h64⟩
theorem tak_right {B n F : Nat} {tk : Nat → Bool} {out : Nat} (h : TakSt n F tk out) (hB : B ≤ 268435456) : rightB B n F = true := by
  obtain ⟨h1, h2, _⟩ := tak_lt h
  rw [rright_bits hB h1]; simp [h2]
theorem take_noF (B M F : Nat) (h : F = 0) (w : World) (hT : Tab w) :
    Calls Tryd.prog 11 #[(.agg #[.int .u64 (B : Int), .int .i64 (M : Int), .int .u64 (F : Int)])] w fun e w' => e = .returned (.tuple #[(.agg #[.int .u64 (B : Int), .int .i64 (M : Int), .int .u64 (F : Int)]), .int .u64 0, .int .i64 8]) ∧ Ext w w' := by subst h; exact take_no B M w hT
theorem take_yesI (B M F : Nat) (hB : B ≤ 268435456) (hF : F < 18446744073709551616) (h0 : F ≠ 0) (w : World) (hT : Tab w) :
    Calls Tryd.prog 11 #[(.agg #[.int .u64 (B : Int), .int .i64 (M : Int), .int .u64 (F : Int)])] w fun e w' => e = .returned (.tuple #[(.agg #[.int .u64 (B : Int), .int .i64 (M : Int), .int .u64 (takeF F : Int)]), .int .u64 ((B : Int) + ((lowN' F : Nat) : Int)), .int .i64 0]) ∧ Ext w w' := by
  have := take_yes B M F hB hF h0 w hT
  rwa [Int.natCast_add] at this
theorem bool_info : (Tryd.prog.info? 4).map (fun i => (i.zero, i.size, i.bytes)) = some (some (.bool false), 1, 1) := by kernel_rfl
theorem make_bools (W : World) : (Instr.makeSlice 43 (.int .i64 64) (.int .i64 64)).run Tryd.prog W = .ok (.slice (some ⟨W.heap.size, 0, none⟩) 64 64) (W.alloc (.cells (bs fun _ => false) 4)) := by
  obtain ⟨i0, hi, hz0, hz1, hz2⟩ := info_parts bool_info
  have h := run_make (P := Tryd.prog) W 43 4 i0 _ Tryd.underlying43 hi hz0 .i64 .i64 64 64 (by omega) (by omega) (by rw [hz2]; omega) (by omega)
  rw [h, hz1]
  have e : madeCells #[Value.bool false] 64 = bs (fun _ => false) := by
    apply Array.ext'
    rw [toList_madeCells_one, bs_zero]; rfl
  show Result.ok _ (W.alloc (.cells (madeCells #[Value.bool false] 64) _)) = _
  rw [e]; rfl

theorem tak_zero {n F : Nat} {tk : Nat → Bool} {o : Nat} (h : TakSt n F tk o) (h0 : F = 0) : ∀ j, j < n → tk j = true := by subst h0; exact fun j hj => h.zero hj
theorem give_I (B M F k : Nat) (hB : B ≤ 268435456) (hM : M ≤ 64) (hF : F < 18446744073709551616) (hk : k < 4294967296) (w : World) :
    Calls Tryd.prog 13 #[(.agg #[.int .u64 (B : Int), .int .i64 (M : Int), .int .u64 (F : Int)]), .int .u64 ((B : Int) + (k : Int))] w fun e w' => e = .returned (.tuple #[(.agg #[.int .u64 (B : Int), .int .i64 (M : Int), .int .u64 (freedN B M F (B + k) : Int)]), .int .i64 (if isB B M F (B + k) then 0 else 1)]) ∧ Ext w w' := by
  have := give_c B M F (B + k) hB hM hF (by omega) w
  rwa [Int.natCast_add] at this
theorem tak_free {B n F : Nat} {tk : Nat → Bool} {o : Nat} (h : TakSt n F tk o) (w : World) :
    Calls Tryd.prog 15 #[(.agg #[.int .u64 (B : Int), .int .i64 (n : Int), .int .u64 (F : Int)])] w fun e w' => e = .returned (.int .i64 ((n : Int) - (o : Int))) ∧ Ext w w' := by
  have := free_c B F n h.lt64 w
  have h2 := h.out_le
  rwa [h2.2, show (((n - o : Nat) : Nat) : Int) = (n : Int) - (o : Int) by omega] at this
theorem tak_rightc {B n F : Nat} {tk : Nat → Bool} {o : Nat} (hB : B ≤ 268435456) (h : TakSt n F tk o) (w : World) :
    Calls Tryd.prog 9 #[(.agg #[.int .u64 (B : Int), .int .i64 (n : Int), .int .u64 (F : Int)])] w fun e w' => e = .returned (.bool true) ∧ Ext w w' := by
  have := right_c B F n (by omega) h.lt64 (by omega) (by have := (tak_lt h).1; omega) w
  rwa [tak_right h hB] at this

set_option maxRecDepth 100000 in
set_option maxHeartbeats 8000000 in
theorem PoolTakes_w (B : Nat) (many : Int) (A : Option Addr) (l : List Nat) (c : Nat) (hB : B < 4294967296) (m0 : 0 ≤ many) (m1 : many < 256) (hl : IsBytes l) (hm : l.length ≤ 9223372036854775807) (w : World) (hs : SlB w A l) (hT : Tab w) :
    Calls Tryd.prog 5 #[.int .u32 (B : Int), .int .u8 many, .slice A l.length c] w fun e w' => e = .returned (.bool true) ∧ Ext w w' := by
  have HT := Lib.hid hT
  have HE := Lib.hid (Ext.refl w)
  clear hT
  by_cases hB2 : 268435456 < B
  · have hd : decide ((268435456 : Int) < (B : Int)) = true := by simp; omega
    clear hB2
    go_enter Tryd.func5, Tryd.ntmps5
    go_wp2_with fail; refine (awake4_c _ HT.out).mono ?_; rintro e w1 ⟨rfl, hE⟩; replace HE := Lib.hid (HE.out.trans hE)
    replace HT := Lib.hid (HT.out.ext hE)
    clear hE
    go_wp2_with fail; refine (awake4_c _ HT.out).mono ?_; rintro e w2 ⟨rfl, hE⟩; replace HE := Lib.hid (HE.out.trans hE)
    clear hE
    go_wp2
    go_ret
    exact ⟨rfl, HE.out⟩
  have hd : decide ((268435456 : Int) < (B : Int)) = false := by simp; omega
  by_cases hlen : 300 < l.length
  · have hd2 : decide ((300 : Int) < (l.length : Int)) = true := by simp; omega
    clear hlen
    go_enter Tryd.func5, Tryd.ntmps5
    go_wp2_with fail; refine (awake4_c _ HT.out).mono ?_; rintro e w1 ⟨rfl, hE⟩; replace HE := Lib.hid (HE.out.trans hE)
    replace HT := Lib.hid (HT.out.ext hE)
    clear hE
    go_wp2_with fail; refine (awake4_c _ HT.out).mono ?_; rintro e w2 ⟨rfl, hE⟩; replace HE := Lib.hid (HE.out.trans hE)
    clear hE
    go_wp2
    go_ret
    exact ⟨rfl, HE.out⟩
  have hd2 : decide ((300 : Int) < (l.length : Int)) = false := by simp; omega
  obtain ⟨n, hn⟩ : ∃ n : Nat, many % 65 = (n : Int) := ⟨(many % 65).toNat, by omega⟩
  have hn64 : n ≤ 64 := by omega
  have hB3 : B ≤ 268435456 := by omega
  have hr0 : rightB B n 0 = true := by rw [rright_bits hB3 hn64]; simp; exact Nat.two_pow_pos n
  have hnew := new_yes B n hB3 hn64 hr0
  have hst := tak_new hn64
  have Hst := Lib.hid hst
  have hmk := make_bools
  clear hst hr0
  generalize 2 ^ n - 1 = F0 at *
  go_enter Tryd.func5, Tryd.ntmps5
  go_wp2_with fail; refine (awake4_c _ HT.out).mono ?_; rintro e w1 ⟨rfl, hE⟩; replace HE := Lib.hid (HE.out.trans hE)
  clear hE
  go_wp2_with fail; refine (hnew _).mono ?_; rintro e w2 ⟨rfl, hE⟩; replace HE := Lib.hid (HE.out.trans hE)
  have hl2 : w.heap.size ≤ w2.heap.size := HE.out.size
  have hp := (Blk.new w2 24 #[.int .u64 (B : Int), .int .i64 (n : Int), .int .u64 (F0 : Int)]).alloc (.cells (bs fun _ => false) 4)
  have ht := Blk.new (w2.alloc (.cells #[.int .u64 (B : Int), .int .i64 (n : Int), .int .u64 (F0 : Int)] 24)) 4 (bs fun _ => false)
  rw [World.size_alloc] at ht
  replace HE := Lib.hid ((HE.out.alloc (.cells #[.int .u64 (B : Int), .int .i64 (n : Int), .int .u64 (F0 : Int)] 24)).alloc (.cells (bs fun _ => false) 4))
  clear hE hnew
  go_wp2_with fail
  go_loopw [11, 12] (fun ou i wr => ∃ (k F o : Nat) (tk : Nat → Bool), k ≤ l.length ∧ i = .int .i64 k ∧ ou = .int .i64 o ∧ Hid (TakSt n F tk o) ∧ Blk wr w2.heap.size 24 #[.int .u64 (B : Int), .int .i64 (n : Int), .int .u64 (F : Int)] ∧ Blk wr (w2.heap.size + 1) 4 (bs tk) ∧ Ext w wr) (fun _ i _ => (l.length - intOf i).toNat)
  case atStart => exact ⟨0, F0, 0, _, by omega, rfl, rfl, Hst, hp, ht, HE.out⟩
  case round =>
    clear Hst hp ht HE
    obtain ⟨k, F, o, tk, hk, rfl, rfl, hst, hp, ht, hE⟩ := hrel
    have HE := Lib.hid hE
    have hTr := Lib.hid (HT.out.ext hE)
    obtain ⟨-, hFn, hF⟩ := tak_lt hst.out
    have ho := hst.out.out_le.1
    by_cases hlt : k < l.length
    · obtain ⟨b, off, rfl, hbw, hc⟩ := hs (by omega)
      have hck := ext_cell hE (hc k hlt)
      have hx : bAt l k < 256 := bAt_lt hl k
      generalize bAt l k = x at *
      clear hc hs hE
      by_cases h3 : 0 < x % 3
      · by_cases h0 : F = 0
        · have htk := take_noF B n F h0
          have Hall := Lib.hid (tak_zero hst.out h0)
          have hfc := tak_free (B := B) hst.out
          have hrc := tak_rightc hB3 hst.out
          clear h0
          obtain ⟨p0, p1, p2⟩ := hp.c3
          go_wp2_with fail; refine (htk _ hTr.out).mono ?_; rintro e w3 ⟨rfl, hE⟩; replace HE := Lib.hid (HE.out.trans hE)
          have hw3 : w2.heap.size + 1 < w3.heap.size := Nat.lt_of_lt_of_le ht.lt hE.size
          have x1 : ¬ w2.heap.size + 1 = w3.heap.size := by omega
          have x2 : ¬ w3.heap.size = w2.heap.size + 1 := by omega
          have x3 : ¬ w2.heap.size = w3.heap.size := by omega
          have x4 : ¬ w3.heap.size = w2.heap.size := by omega
          have hp3 := (hp.ext hE).alloc (.cells #[.int .u64 (B : Int), .int .i64 (n : Int), .int .u64 (F : Int)] 24)
          have ht3 := (ht.ext hE).alloc (.cells #[.int .u64 (B : Int), .int .i64 (n : Int), .int .u64 (F : Int)] 24)
          have hq3 := Blk.new w3 24 #[.int .u64 (B : Int), .int .i64 (n : Int), .int .u64 (F : Int)]
          replace HE := Lib.hid (HE.out.alloc (.cells #[.int .u64 (B : Int), .int .i64 (n : Int), .int .u64 (F : Int)] 24))
          clear p0 p1 p2 hE htk hTr hp ht
          go_wp2_with fail
          generalize w3.alloc (.cells #[.int .u64 (B : Int), .int .i64 (n : Int), .int .u64 (F : Int)] 24) = w4 at *
          obtain ⟨p0, p1, p2⟩ := hp3.c3
          obtain ⟨f0, f1, f2⟩ := hp3.f3
          obtain ⟨q0, q1, q2⟩ := hq3.c3
          go_loop [16] (fun u => ∃ j : Nat, j ≤ n ∧ u = .int .i64 j) (fun u => (n - intOf u).toNat)
          case atStart => exact ⟨0, by omega, rfl⟩
          case round =>
            obtain ⟨j, hj, rfl⟩ := hrel
            by_cases hjL : j < n
            · have hj64 : j < 64 := by omega
              have hcj := ht3.cell j
              rw [bs_get _ hj64, Hall.out j hjL] at hcj
              go_wp2
              go_round
              case rel => exact ⟨j + 1, by omega, by go_num⟩
              case measure => simp [intOf]; omega
            · have hjn : j = n := by omega
              subst hjn
              have Hp3 := Lib.hid hp3
              have Ht3 := Lib.hid ht3
              clear hp3 ht3 hq3
              go_wp2_with fail
              have hp5 := Hp3.out.set3 (.int .u64 (B : Int)) (.int .i64 (j : Int)) (.int .u64 (F : Int))
              have ht5 := ((Ht3.out.other (a := ⟨w2.heap.size, 0, none⟩) (by simp) (.int .u64 (B : Int))).other (a := ⟨w2.heap.size, 1, none⟩) (by simp) (.int .i64 (j : Int))).other (a := ⟨w2.heap.size, 2, none⟩) (by simp) (.int .u64 (F : Int))
              replace HE := Lib.hid (HE.out.set3 hl2 (.int .u64 (B : Int)) (.int .i64 (j : Int)) (.int .u64 (F : Int)))
              generalize ((w4.setCell ⟨w2.heap.size, 0, none⟩ (.int .u64 (B : Int))).setCell ⟨w2.heap.size, 1, none⟩ (.int .i64 (j : Int))).setCell ⟨w2.heap.size, 2, none⟩ (.int .u64 (F : Int)) = w5 at *
              clear p0 p1 p2 f0 f1 f2 q0 q1 q2 Hp3 Ht3
              go_wp2_with fail; refine (hfc _).mono ?_; rintro e w6 ⟨rfl, hE⟩; replace HE := Lib.hid (HE.out.trans hE)
              replace hp5 := hp5.ext hE
              replace ht5 := ht5.ext hE
              clear hE hfc
              obtain ⟨p0, p1, p2⟩ := hp5.c3
              go_wp2_with fail; refine (hrc _).mono ?_; rintro e w7 ⟨rfl, hE⟩; replace HE := Lib.hid (HE.out.trans hE)
              replace hp5 := hp5.ext hE
              replace ht5 := ht5.ext hE
              have Hp := Lib.hid hp5
              have Ht := Lib.hid ht5
              clear hE hrc hp5 ht5 p0 p1 p2
              go_wp2
              exact ⟨⟨k + 1, F, o, _, by omega, by go_num, by go_num, hst, Hp.out, Ht.out, HE.out⟩, by simp [intOf]; omega⟩
        · obtain ⟨hLn, hall, hno, hst2⟩ := hst.out.low h0
          have htk := take_yesI B n F hB3 hF h0
          have hG : takeF F < 18446744073709551616 := take_lt hF
          generalize lowN' F = L at *
          generalize takeF F = G at *
          have Hall := Lib.hid hall
          have Hno := Lib.hid hno
          have Hst := Lib.hid hst2
          clear hall hno hst hst2
          obtain ⟨p0, p1, p2⟩ := hp.c3
          go_wp2_with fail; refine (htk _ hTr.out).mono ?_; rintro e w3 ⟨rfl, hE⟩; replace HE := Lib.hid (HE.out.trans hE)
          have hw3 : w2.heap.size + 1 < w3.heap.size := Nat.lt_of_lt_of_le ht.lt hE.size
          have x1 : ¬ w2.heap.size + 1 = w3.heap.size := by omega
          have x2 : ¬ w3.heap.size = w2.heap.size + 1 := by omega
          have x3 : ¬ w2.heap.size = w3.heap.size := by omega
          have x4 : ¬ w3.heap.size = w2.heap.size := by omega
          have hp3 := (hp.ext hE).alloc (.cells #[.int .u64 (B : Int), .int .i64 (n : Int), .int .u64 (G : Int)] 24)
          have ht3 := (ht.ext hE).alloc (.cells #[.int .u64 (B : Int), .int .i64 (n : Int), .int .u64 (G : Int)] 24)
          have hq3 := Blk.new w3 24 #[.int .u64 (B : Int), .int .i64 (n : Int), .int .u64 (G : Int)]
          replace HE := Lib.hid (HE.out.alloc (.cells #[.int .u64 (B : Int), .int .i64 (n : Int), .int .u64 (G : Int)] 24))
          clear p0 p1 p2 hE htk hTr hp ht
          go_wp2_with fail
          generalize w3.alloc (.cells #[.int .u64 (B : Int), .int .i64 (n : Int), .int .u64 (G : Int)] 24) = w4 at *
          obtain ⟨p0, p1, p2⟩ := hp3.c3
          obtain ⟨f0, f1, f2⟩ := hp3.f3
          obtain ⟨q0, q1, q2⟩ := hq3.c3
          have hfL := ht3.frozen L
          have hpq := hp3.lt
          go_loop [16] (fun u => ∃ j : Nat, j ≤ L ∧ u = .int .i64 j) (fun u => (n - intOf u).toNat)
          case atStart => exact ⟨0, by omega, rfl⟩
          case round =>
            obtain ⟨j, hj, rfl⟩ := hrel
            have hj64 : j < 64 := by omega
            have hcj := ht3.cell j
            rw [bs_get _ hj64] at hcj
            by_cases hjL : j < L
            · rw [Hall.out j hjL] at hcj
              go_wp2
              go_round
              case rel => exact ⟨j + 1, by omega, by go_num⟩
              case measure => simp [intOf]; omega
            · obtain rfl : j = L := by omega
              rw [Hno.out] at hcj
              have Hp3 := Lib.hid hp3
              have Ht3 := Lib.hid ht3
              have hfc := tak_free (B := B) Hst.out
              have hrc := tak_rightc hB3 Hst.out
              clear hp3 ht3 hq3
              go_wp2_with fail
              have hp5 := (Hp3.out.other (a := ⟨w2.heap.size + 1, j, none⟩) (by simp) (.bool true)).set3 (.int .u64 (B : Int)) (.int .i64 (n : Int)) (.int .u64 (G : Int))
              have ht5 := (((Ht3.out.set_ j (.bool true)).other (a := ⟨w2.heap.size, 0, none⟩) (by simp) (.int .u64 (B : Int))).other (a := ⟨w2.heap.size, 1, none⟩) (by simp) (.int .i64 (n : Int))).other (a := ⟨w2.heap.size, 2, none⟩) (by simp) (.int .u64 (G : Int))
              rw [bs_set] at ht5
              replace HE := Lib.hid ((HE.out.set1 (show w.heap.size ≤ w2.heap.size + 1 by omega) j (.bool true)).set3 hl2 (.int .u64 (B : Int)) (.int .i64 (n : Int)) (.int .u64 (G : Int)))
              generalize (((w4.setCell ⟨w2.heap.size + 1, j, none⟩ (.bool true)).setCell ⟨w2.heap.size, 0, none⟩ (.int .u64 (B : Int))).setCell ⟨w2.heap.size, 1, none⟩ (.int .i64 (n : Int))).setCell ⟨w2.heap.size, 2, none⟩ (.int .u64 (G : Int)) = w5 at *
              clear p0 p1 p2 f0 f1 f2 q0 q1 q2 hcj hfL Hp3 Ht3
              go_wp2_with fail; refine (hfc _).mono ?_; rintro e w6 ⟨rfl, hE⟩; replace HE := Lib.hid (HE.out.trans hE)
              replace hp5 := hp5.ext hE
              replace ht5 := ht5.ext hE
              clear hE hfc
              obtain ⟨p0, p1, p2⟩ := hp5.c3
              go_wp2_with fail; refine (hrc _).mono ?_; rintro e w7 ⟨rfl, hE⟩; replace HE := Lib.hid (HE.out.trans hE)
              replace hp5 := hp5.ext hE
              replace ht5 := ht5.ext hE
              have Hp := Lib.hid hp5
              have Ht := Lib.hid ht5
              clear hE hrc hp5 ht5 p0 p1 p2
              go_wp2
              exact ⟨⟨k + 1, G, o + 1, _, by omega, by go_num, by go_num, Hst, Hp.out, Ht.out, HE.out⟩, by simp [intOf]; omega⟩
      · have h3' : x % 3 = 0 := by omega
        have hd3 : decide ((0 : Int) < (x : Int) % 3) = false := by simp; omega
        obtain ⟨kk, hkk, hk64⟩ : ∃ kk : Nat, (x : Int) % 64 = (kk : Int) ∧ kk < 64 := ⟨x % 64, by omega, by omega⟩
        have his := tak_is (B := B) hst.out kk
        have hgv := give_I B n F kk hB3 hn64 hF (by omega)
        have hck2 := ht.cell kk
        rw [bs_get _ hk64] at hck2
        clear h3 h3'
        by_cases hy : kk < n ∧ tk kk = true
        · obtain ⟨hy1, hy2⟩ := hy
          have hgi := hst.out.give hy1 hy2
          rw [his, hy2, freed_in (by omega) (by omega), show B + kk - B = kk by omega] at hgv
          simp only [hy1, decide_true, Bool.true_and, if_true] at hgv
          obtain ⟨-, ho1, hst2⟩ := hgi
          rw [hy2] at hck2
          have Hst := Lib.hid hst2
          have hfc := tak_free (B := B) hst2
          have hrc := tak_rightc hB3 hst2
          rw [show ((o - 1 : Nat) : Int) = (o : Int) - 1 by omega] at hfc
          have hfL := ht.frozen kk
          generalize bitN F kk true = G at *
          clear hst2 hst his hy2
          obtain ⟨p0, p1, p2⟩ := hp.c3
          go_wp2_with fail; refine (hgv _).mono ?_; rintro e w3 ⟨rfl, hE⟩; replace HE := Lib.hid (HE.out.trans hE)
          have hw3 : w2.heap.size + 1 < w3.heap.size := Nat.lt_of_lt_of_le ht.lt hE.size
          have x1 : ¬ w2.heap.size + 1 = w3.heap.size := by omega
          have x2 : ¬ w3.heap.size = w2.heap.size + 1 := by omega
          have x3 : ¬ w2.heap.size = w3.heap.size := by omega
          have x4 : ¬ w3.heap.size = w2.heap.size := by omega
          have x5 : w2.heap.size < w3.heap.size := by omega
          replace hck2 := ext_cell hE hck2
          have hp3 := hp.ext hE
          have ht3 := ht.ext hE
          replace hfL := ht3.frozen kk
          clear p0 p1 p2 hE hgv hTr hp ht
          obtain ⟨p0, p1, p2⟩ := hp3.c3
          obtain ⟨f0, f1, f2⟩ := hp3.f3
          have Hp3 := Lib.hid hp3
          have Ht3 := Lib.hid ht3
          clear hp3 ht3
          go_wp2_with fail
          have hp5 := ((Hp3.out.other (a := ⟨w2.heap.size + 1, kk, none⟩) (by simp) (.bool false)).set3 (.int .u64 (B : Int)) (.int .i64 (n : Int)) (.int .u64 (G : Int))).alloc (.cells #[.int .u64 (B : Int), .int .i64 (n : Int), .int .u64 (G : Int)] 24)
          have ht5 := ((((Ht3.out.set_ kk (.bool false)).other (a := ⟨w2.heap.size, 0, none⟩) (by simp) (.int .u64 (B : Int))).other (a := ⟨w2.heap.size, 1, none⟩) (by simp) (.int .i64 (n : Int))).other (a := ⟨w2.heap.size, 2, none⟩) (by simp) (.int .u64 (G : Int))).alloc (.cells #[.int .u64 (B : Int), .int .i64 (n : Int), .int .u64 (G : Int)] 24)
          rw [bs_set] at ht5
          replace HE := Lib.hid (((HE.out.set1 (show w.heap.size ≤ w2.heap.size + 1 by omega) kk (.bool false)).set3 hl2 (.int .u64 (B : Int)) (.int .i64 (n : Int)) (.int .u64 (G : Int))).alloc (.cells #[.int .u64 (B : Int), .int .i64 (n : Int), .int .u64 (G : Int)] 24))
          generalize ((((w3.setCell ⟨w2.heap.size + 1, kk, none⟩ (.bool false)).setCell ⟨w2.heap.size, 0, none⟩ (.int .u64 (B : Int))).setCell ⟨w2.heap.size, 1, none⟩ (.int .i64 (n : Int))).setCell ⟨w2.heap.size, 2, none⟩ (.int .u64 (G : Int))).alloc (.cells #[.int .u64 (B : Int), .int .i64 (n : Int), .int .u64 (G : Int)] 24) = w5 at *
          clear p0 p1 p2 f0 f1 f2 hck2 hfL Hp3 Ht3
          go_wp2_with fail; refine (hfc _).mono ?_; rintro e w6 ⟨rfl, hE⟩; replace HE := Lib.hid (HE.out.trans hE)
          replace hp5 := hp5.ext hE
          replace ht5 := ht5.ext hE
          clear hE hfc
          obtain ⟨p0, p1, p2⟩ := hp5.c3
          go_wp2_with fail; refine (hrc _).mono ?_; rintro e w7 ⟨rfl, hE⟩; replace HE := Lib.hid (HE.out.trans hE)
          replace hp5 := hp5.ext hE
          replace ht5 := ht5.ext hE
          have Hp := Lib.hid hp5
          have Ht := Lib.hid ht5
          clear hE hrc hp5 ht5 p0 p1 p2
          go_wp2
          exact ⟨⟨k + 1, G, o - 1, _, by omega, by go_num, by congr 1; omega, Hst, Hp.out, Ht.out, HE.out⟩, by simp [intOf]; omega⟩
        · have hno : isB B n F (B + kk) = false := by
            rw [his]
            cases hb : (decide (kk < n) && tk kk)
            · rfl
            · simp only [Bool.and_eq_true, decide_eq_true_eq] at hb; exact absurd hb hy
          rw [hno, freed_not hn64 hF hno] at hgv
          simp only [Bool.false_eq_true, if_false] at hgv
          have hfc := tak_free (B := B) hst.out
          have hrc := tak_rightc hB3 hst.out
          clear his hno
          obtain ⟨p0, p1, p2⟩ := hp.c3
          by_cases hkn : kk < n
          · have htf : tk kk = false := by
              cases hb : tk kk
              · rfl
              · exact absurd ⟨hkn, hb⟩ hy
            rw [htf] at hck2
            clear hy htf
            go_wp2_with fail; refine (hgv _).mono ?_; rintro e w3 ⟨rfl, hE⟩; replace HE := Lib.hid (HE.out.trans hE)
            replace hck2 := ext_cell hE hck2
            have x0 : w2.heap.size + 1 < w3.heap.size := Nat.lt_of_lt_of_le ht.lt hE.size
            have hp5 := ((hp.ext hE).set3 (.int .u64 (B : Int)) (.int .i64 (n : Int)) (.int .u64 (F : Int))).alloc (.cells #[.int .u64 (B : Int), .int .i64 (n : Int), .int .u64 (F : Int)] 24)
            have ht5 := ((((ht.ext hE).other (a := ⟨w2.heap.size, 0, none⟩) (by simp) (.int .u64 (B : Int))).other (a := ⟨w2.heap.size, 1, none⟩) (by simp) (.int .i64 (n : Int))).other (a := ⟨w2.heap.size, 2, none⟩) (by simp) (.int .u64 (F : Int))).alloc (.cells #[.int .u64 (B : Int), .int .i64 (n : Int), .int .u64 (F : Int)] 24)
            obtain ⟨p0, p1, p2⟩ := (hp.ext hE).c3
            obtain ⟨f0, f1, f2⟩ := (hp.ext hE).f3
            replace HE := Lib.hid ((HE.out.set3 hl2 (.int .u64 (B : Int)) (.int .i64 (n : Int)) (.int .u64 (F : Int))).alloc (.cells #[.int .u64 (B : Int), .int .i64 (n : Int), .int .u64 (F : Int)] 24))
            have Hp5 := Lib.hid hp5
            have Ht5 := Lib.hid ht5
            clear hE hgv hTr hp ht hp5 ht5
            have x5 : w2.heap.size < w3.heap.size := by omega
            have x1 : ¬ w2.heap.size + 1 = w3.heap.size := by omega
            have x3 : ¬ w2.heap.size = w3.heap.size := by omega
            go_wp2_with fail
            have hp5 := Hp5.out
            have ht5 := Ht5.out
            clear Hp5 Ht5 p0 p1 p2 f0 f1 f2 hck2
            generalize (((w3.setCell ⟨w2.heap.size, 0, none⟩ (.int .u64 (B : Int))).setCell ⟨w2.heap.size, 1, none⟩ (.int .i64 (n : Int))).setCell ⟨w2.heap.size, 2, none⟩ (.int .u64 (F : Int))).alloc (.cells #[.int .u64 (B : Int), .int .i64 (n : Int), .int .u64 (F : Int)] 24) = w5 at *
            go_wp2_with fail; refine (hfc _).mono ?_; rintro e w6 ⟨rfl, hE⟩; replace HE := Lib.hid (HE.out.trans hE)
            replace hp5 := hp5.ext hE
            replace ht5 := ht5.ext hE
            clear hE hfc
            obtain ⟨p0, p1, p2⟩ := hp5.c3
            go_wp2_with fail; refine (hrc _).mono ?_; rintro e w7 ⟨rfl, hE⟩; replace HE := Lib.hid (HE.out.trans hE)
            replace hp5 := hp5.ext hE
            replace ht5 := ht5.ext hE
            have Hp := Lib.hid hp5
            have Ht := Lib.hid ht5
            clear hE hrc hp5 ht5 p0 p1 p2
            go_wp2
            exact ⟨⟨k + 1, F, o, _, by omega, by go_num, by go_num, hst, Hp.out, Ht.out, HE.out⟩, by simp [intOf]; omega⟩
          · have hdk : decide (kk < n) = false := by simp; omega
            have hdk2 : n ≤ kk := by omega
            clear hy hkn
            go_wp2_with fail; refine (hgv _).mono ?_; rintro e w3 ⟨rfl, hE⟩; replace HE := Lib.hid (HE.out.trans hE)
            replace hck2 := ext_cell hE hck2
            have x0 : w2.heap.size + 1 < w3.heap.size := Nat.lt_of_lt_of_le ht.lt hE.size
            have hp5 := ((hp.ext hE).set3 (.int .u64 (B : Int)) (.int .i64 (n : Int)) (.int .u64 (F : Int))).alloc (.cells #[.int .u64 (B : Int), .int .i64 (n : Int), .int .u64 (F : Int)] 24)
            have ht5 := ((((ht.ext hE).other (a := ⟨w2.heap.size, 0, none⟩) (by simp) (.int .u64 (B : Int))).other (a := ⟨w2.heap.size, 1, none⟩) (by simp) (.int .i64 (n : Int))).other (a := ⟨w2.heap.size, 2, none⟩) (by simp) (.int .u64 (F : Int))).alloc (.cells #[.int .u64 (B : Int), .int .i64 (n : Int), .int .u64 (F : Int)] 24)
            obtain ⟨p0, p1, p2⟩ := (hp.ext hE).c3
            obtain ⟨f0, f1, f2⟩ := (hp.ext hE).f3
            replace HE := Lib.hid ((HE.out.set3 hl2 (.int .u64 (B : Int)) (.int .i64 (n : Int)) (.int .u64 (F : Int))).alloc (.cells #[.int .u64 (B : Int), .int .i64 (n : Int), .int .u64 (F : Int)] 24))
            have Hp5 := Lib.hid hp5
            have Ht5 := Lib.hid ht5
            clear hE hgv hTr hp ht hp5 ht5
            have x5 : w2.heap.size < w3.heap.size := by omega
            have x1 : ¬ w2.heap.size + 1 = w3.heap.size := by omega
            have x3 : ¬ w2.heap.size = w3.heap.size := by omega
            go_wp2_with fail
            have hp5 := Hp5.out
            have ht5 := Ht5.out
            clear Hp5 Ht5 p0 p1 p2 f0 f1 f2 hck2
            generalize (((w3.setCell ⟨w2.heap.size, 0, none⟩ (.int .u64 (B : Int))).setCell ⟨w2.heap.size, 1, none⟩ (.int .i64 (n : Int))).setCell ⟨w2.heap.size, 2, none⟩ (.int .u64 (F : Int))).alloc (.cells #[.int .u64 (B : Int), .int .i64 (n : Int), .int .u64 (F : Int)] 24) = w5 at *
            go_wp2_with fail; refine (hfc _).mono ?_; rintro e w6 ⟨rfl, hE⟩; replace HE := Lib.hid (HE.out.trans hE)
            replace hp5 := hp5.ext hE
            replace ht5 := ht5.ext hE
            clear hE hfc
            obtain ⟨p0, p1, p2⟩ := hp5.c3
            go_wp2_with fail; refine (hrc _).mono ?_; rintro e w7 ⟨rfl, hE⟩; replace HE := Lib.hid (HE.out.trans hE)
            replace hp5 := hp5.ext hE
            replace ht5 := ht5.ext hE
            have Hp := Lib.hid hp5
            have Ht := Lib.hid ht5
            clear hE hrc hp5 ht5 p0 p1 p2
            go_wp2
            exact ⟨⟨k + 1, F, o, _, by omega, by go_num, by go_num, hst, Hp.out, Ht.out, HE.out⟩, by simp [intOf]; omega⟩
    · obtain rfl : k = l.length := by omega
      clear hE
      go_wp2
      go_ret
      exact ⟨rfl, HE.out⟩
end Go.Proofs.YtdiffllpoappfaaDoor
