/- WalkWays. -/
import Derived.Test.YthplkhkclhpobaaDoorLaw10c
import Derived.Test.YthplkhkclhpobaaDoorMtenb
namespace Go.Proofs.YthplkhkclhpobaaDoor
open Go.ChangeShapes Go.WideShapes Go.ChangeAt Go.RowKit
set_option linter.unusedVariables false
set_option linter.unusedSimpArgs false
set_option maxRecDepth 100000

theorem dec_fault {so kd : Nat} (h : so ≠ 0) (a : Nat) : (ftC (fltF so kd a))[0]? = some (.bool true) := ftC_b h kd a
attribute [local irreducible] World.setRow World.alloc Blk
set_option maxHeartbeats 8000000 in
theorem WalkWays_w (S : Nat) (A : Option Addr) (L : List (Nat × Nat)) (c : Nat) (hS : S < 18446744073709551616) (hL : IsCells L) (r a : Nat) (y z : Wy) (hr : r < 18446744073709551616) (ha : a < 18446744073709551616) (w : World) (hrow : RowL w A L c) (hT : Lay w) :
    Calls Tryd.prog 8 #[.agg #[.int .u64 (S : Int), .slice A L.length c], .int .u64 (r : Int), .int .u64 (a : Int), .agg (wyC y), .agg (wyC z)] w fun e w' => e = .returned (.bool true) ∧ Ext w w' := by
  have HE := Lib.hid ((((Ext.refl w).alloc (.cells #[.int .u64 (S : Int), .slice A L.length c] 25)).alloc (.cells (wyC y) 39)).alloc (.cells (wyC z) 39))
  have hb : Blk (((w.alloc (.cells #[.int .u64 (S : Int), .slice A L.length c] 25)).alloc (.cells (wyC y) 39)).alloc (.cells (wyC z) 39)) w.heap.size 25 #[.int .u64 (S : Int), .slice A L.length c] := ((Blk.new w _ _).alloc _).alloc _
  have hc : Blk (((w.alloc (.cells #[.int .u64 (S : Int), .slice A L.length c] 25)).alloc (.cells (wyC y) 39)).alloc (.cells (wyC z) 39)) (w.heap.size + 1) 39 (wyC y) := (blk_at (by simp)).alloc _
  have hd : Blk (((w.alloc (.cells #[.int .u64 (S : Int), .slice A L.length c] 25)).alloc (.cells (wyC y) 39)).alloc (.cells (wyC z) 39)) (w.heap.size + 1 + 1) 39 (wyC z) := blk_at (by simp)
  cases hf : fitT S L r
  · go_enter Tryd.func8, Tryd.ntmps8
    go_wp2_with fail
    refine (awake10_c _ (hT.ext HE.out)).mono ?_
    rintro e w' ⟨rfl, hE⟩
    (try replace hb := hb.ext hE); (try replace hc := hc.ext hE); (try replace hd := hd.ext hE); (try replace h1 := h1.ext hE); (try replace h2 := h2.ext hE); (try replace h3 := h3.ext hE); (try replace h4 := h4.ext hE); (try replace h5 := h5.ext hE); (try replace h6 := h6.ext hE); (try replace h7 := h7.ext hE); (try replace h8 := h8.ext hE); (try replace h9 := h9.ext hE); (try replace k1 := k1.ext hE); (try replace hM := hM.ext hE); (try replace hN := hN.ext hE); (try replace hO := hO.ext hE); (try replace HE := Lib.hid (HE.out.trans hE))
    clear hE
    go_wp2_with (refine wpList_load_blk (by rfl) 25 _ rfl rfl (by with_reducible assumption) Tryd.underlying25 rfl (by kernel_rfl) ?_)
    refine (fits10_c S A L c r hS hL hr _ (hrow.ext HE.out)).mono ?_
    rintro e w' ⟨rfl, hE⟩
    (try replace hb := hb.ext hE); (try replace hc := hc.ext hE); (try replace hd := hd.ext hE); (try replace h1 := h1.ext hE); (try replace h2 := h2.ext hE); (try replace h3 := h3.ext hE); (try replace h4 := h4.ext hE); (try replace h5 := h5.ext hE); (try replace h6 := h6.ext hE); (try replace h7 := h7.ext hE); (try replace h8 := h8.ext hE); (try replace h9 := h9.ext hE); (try replace k1 := k1.ext hE); (try replace hM := hM.ext hE); (try replace hN := hN.ext hE); (try replace hO := hO.ext hE); (try replace HE := Lib.hid (HE.out.trans hE))
    clear hE
    rw [hf]
    go_wp2_with fail
    refine (awake10_c _ (hT.ext HE.out)).mono ?_
    rintro e w' ⟨rfl, hE⟩
    (try replace hb := hb.ext hE); (try replace hc := hc.ext hE); (try replace hd := hd.ext hE); (try replace h1 := h1.ext hE); (try replace h2 := h2.ext hE); (try replace h3 := h3.ext hE); (try replace h4 := h4.ext hE); (try replace h5 := h5.ext hE); (try replace h6 := h6.ext hE); (try replace h7 := h7.ext hE); (try replace h8 := h8.ext hE); (try replace h9 := h9.ext hE); (try replace k1 := k1.ext hE); (try replace hM := hM.ext hE); (try replace hN := hN.ext hE); (try replace hO := hO.ext hE); (try replace HE := Lib.hid (HE.out.trans hE))
    clear hE
    go_wp2
    go_ret
    exact ⟨rfl, HE.out⟩
  obtain ⟨hM, h300, hr44⟩ := fit10 hf hL hrow
  cases hy : wyIs y
  · go_enter Tryd.func8, Tryd.ntmps8
    go_wp2_with fail
    refine (awake10_c _ (hT.ext HE.out)).mono ?_
    rintro e w' ⟨rfl, hE⟩
    (try replace hb := hb.ext hE); (try replace hc := hc.ext hE); (try replace hd := hd.ext hE); (try replace h1 := h1.ext hE); (try replace h2 := h2.ext hE); (try replace h3 := h3.ext hE); (try replace h4 := h4.ext hE); (try replace h5 := h5.ext hE); (try replace h6 := h6.ext hE); (try replace h7 := h7.ext hE); (try replace h8 := h8.ext hE); (try replace h9 := h9.ext hE); (try replace k1 := k1.ext hE); (try replace hM := hM.ext hE); (try replace hN := hN.ext hE); (try replace hO := hO.ext hE); (try replace HE := Lib.hid (HE.out.trans hE))
    clear hE
    go_wp2_with (refine wpList_load_blk (by rfl) 25 _ rfl rfl (by with_reducible assumption) Tryd.underlying25 rfl (by kernel_rfl) ?_)
    refine (fits10_c S A L c r hS hL hr _ (hrow.ext HE.out)).mono ?_
    rintro e w' ⟨rfl, hE⟩
    (try replace hb := hb.ext hE); (try replace hc := hc.ext hE); (try replace hd := hd.ext hE); (try replace h1 := h1.ext hE); (try replace h2 := h2.ext hE); (try replace h3 := h3.ext hE); (try replace h4 := h4.ext hE); (try replace h5 := h5.ext hE); (try replace h6 := h6.ext hE); (try replace h7 := h7.ext hE); (try replace h8 := h8.ext hE); (try replace h9 := h9.ext hE); (try replace k1 := k1.ext hE); (try replace hM := hM.ext hE); (try replace hN := hN.ext hE); (try replace hO := hO.ext hE); (try replace HE := Lib.hid (HE.out.trans hE))
    clear hE
    rw [hf]
    go_wp2_with (first | (refine wpList_load_blk (by rfl) 39 _ rfl rfl hc Tryd.underlying39 rfl (by kernel_rfl) ?_))
    refine (ris8_c y _).mono ?_
    rintro e w' ⟨rfl, hE⟩
    (try replace hb := hb.ext hE); (try replace hc := hc.ext hE); (try replace hd := hd.ext hE); (try replace h1 := h1.ext hE); (try replace h2 := h2.ext hE); (try replace h3 := h3.ext hE); (try replace h4 := h4.ext hE); (try replace h5 := h5.ext hE); (try replace h6 := h6.ext hE); (try replace h7 := h7.ext hE); (try replace h8 := h8.ext hE); (try replace h9 := h9.ext hE); (try replace k1 := k1.ext hE); (try replace hM := hM.ext hE); (try replace hN := hN.ext hE); (try replace hO := hO.ext hE); (try replace HE := Lib.hid (HE.out.trans hE))
    clear hE
    rw [hy]
    go_wp2_with fail
    refine (awake10_c _ (hT.ext HE.out)).mono ?_
    rintro e w' ⟨rfl, hE⟩
    (try replace hb := hb.ext hE); (try replace hc := hc.ext hE); (try replace hd := hd.ext hE); (try replace h1 := h1.ext hE); (try replace h2 := h2.ext hE); (try replace h3 := h3.ext hE); (try replace h4 := h4.ext hE); (try replace h5 := h5.ext hE); (try replace h6 := h6.ext hE); (try replace h7 := h7.ext hE); (try replace h8 := h8.ext hE); (try replace h9 := h9.ext hE); (try replace k1 := k1.ext hE); (try replace hM := hM.ext hE); (try replace hN := hN.ext hE); (try replace hO := hO.ext hE); (try replace HE := Lib.hid (HE.out.trans hE))
    clear hE
    go_wp2
    go_ret
    exact ⟨rfl, HE.out⟩
  cases hz' : wyIs z
  · go_enter Tryd.func8, Tryd.ntmps8
    go_wp2_with fail
    refine (awake10_c _ (hT.ext HE.out)).mono ?_
    rintro e w' ⟨rfl, hE⟩
    (try replace hb := hb.ext hE); (try replace hc := hc.ext hE); (try replace hd := hd.ext hE); (try replace h1 := h1.ext hE); (try replace h2 := h2.ext hE); (try replace h3 := h3.ext hE); (try replace h4 := h4.ext hE); (try replace h5 := h5.ext hE); (try replace h6 := h6.ext hE); (try replace h7 := h7.ext hE); (try replace h8 := h8.ext hE); (try replace h9 := h9.ext hE); (try replace k1 := k1.ext hE); (try replace hM := hM.ext hE); (try replace hN := hN.ext hE); (try replace hO := hO.ext hE); (try replace HE := Lib.hid (HE.out.trans hE))
    clear hE
    go_wp2_with (refine wpList_load_blk (by rfl) 25 _ rfl rfl (by with_reducible assumption) Tryd.underlying25 rfl (by kernel_rfl) ?_)
    refine (fits10_c S A L c r hS hL hr _ (hrow.ext HE.out)).mono ?_
    rintro e w' ⟨rfl, hE⟩
    (try replace hb := hb.ext hE); (try replace hc := hc.ext hE); (try replace hd := hd.ext hE); (try replace h1 := h1.ext hE); (try replace h2 := h2.ext hE); (try replace h3 := h3.ext hE); (try replace h4 := h4.ext hE); (try replace h5 := h5.ext hE); (try replace h6 := h6.ext hE); (try replace h7 := h7.ext hE); (try replace h8 := h8.ext hE); (try replace h9 := h9.ext hE); (try replace k1 := k1.ext hE); (try replace hM := hM.ext hE); (try replace hN := hN.ext hE); (try replace hO := hO.ext hE); (try replace HE := Lib.hid (HE.out.trans hE))
    clear hE
    rw [hf]
    go_wp2_with (first | (refine wpList_load_blk (by rfl) 39 _ rfl rfl hc Tryd.underlying39 rfl (by kernel_rfl) ?_))
    refine (ris8_c y _).mono ?_
    rintro e w' ⟨rfl, hE⟩
    (try replace hb := hb.ext hE); (try replace hc := hc.ext hE); (try replace hd := hd.ext hE); (try replace h1 := h1.ext hE); (try replace h2 := h2.ext hE); (try replace h3 := h3.ext hE); (try replace h4 := h4.ext hE); (try replace h5 := h5.ext hE); (try replace h6 := h6.ext hE); (try replace h7 := h7.ext hE); (try replace h8 := h8.ext hE); (try replace h9 := h9.ext hE); (try replace k1 := k1.ext hE); (try replace hM := hM.ext hE); (try replace hN := hN.ext hE); (try replace hO := hO.ext hE); (try replace HE := Lib.hid (HE.out.trans hE))
    clear hE
    rw [hy]
    go_wp2_with (first | (refine wpList_load_blk (by rfl) 39 _ rfl rfl hd Tryd.underlying39 rfl (by kernel_rfl) ?_))
    refine (ris8_c z _).mono ?_
    rintro e w' ⟨rfl, hE⟩
    (try replace hb := hb.ext hE); (try replace hc := hc.ext hE); (try replace hd := hd.ext hE); (try replace h1 := h1.ext hE); (try replace h2 := h2.ext hE); (try replace h3 := h3.ext hE); (try replace h4 := h4.ext hE); (try replace h5 := h5.ext hE); (try replace h6 := h6.ext hE); (try replace h7 := h7.ext hE); (try replace h8 := h8.ext hE); (try replace h9 := h9.ext hE); (try replace k1 := k1.ext hE); (try replace hM := hM.ext hE); (try replace hN := hN.ext hE); (try replace hO := hO.ext hE); (try replace HE := Lib.hid (HE.out.trans hE))
    clear hE
    rw [hz']
    go_wp2_with fail
    refine (awake10_c _ (hT.ext HE.out)).mono ?_
    rintro e w' ⟨rfl, hE⟩
    (try replace hb := hb.ext hE); (try replace hc := hc.ext hE); (try replace hd := hd.ext hE); (try replace h1 := h1.ext hE); (try replace h2 := h2.ext hE); (try replace h3 := h3.ext hE); (try replace h4 := h4.ext hE); (try replace h5 := h5.ext hE); (try replace h6 := h6.ext hE); (try replace h7 := h7.ext hE); (try replace h8 := h8.ext hE); (try replace h9 := h9.ext hE); (try replace k1 := k1.ext hE); (try replace hM := hM.ext hE); (try replace hN := hN.ext hE); (try replace hO := hO.ext hE); (try replace HE := Lib.hid (HE.out.trans hE))
    clear hE
    go_wp2
    go_ret
    exact ⟨rfl, HE.out⟩
  obtain ⟨k, hk3, hk⟩ : ∃ k : Nat, k < 3 ∧ y.kd = (k : Int) := by
    have := (wy_cases hy).1
    exact ⟨y.kd.toNat, by omega, by omega⟩
  obtain ⟨j, hj3, hj⟩ : ∃ k : Nat, k < 3 ∧ z.kd = (k : Int) := by
    have := (wy_cases hz').1
    exact ⟨z.kd.toNat, by omega, by omega⟩
  have hy0 : (wyC y)[0]? = some (.int .i64 (k : Int)) := by rw [wyC_eq, hk]; rfl
  have hz0 : (wyC z)[0]? = some (.int .i64 (j : Int)) := by rw [wyC_eq, hj]; rfl
  have hwk := fun w (hM : Mem w S A L c) (hT : Lay w) => walk_c hM (by omega) hr44 ha y hy hT
  have hvk := fun w (hM : Mem w S A L c) (hT : Lay w) => walk_c hM (by omega) hr44 ha z hz' hT
  have hlk := fun w (hM : Mem w S A L c) (hT : Lay w) => look_c hM hr44 ha k hk3 hT
  have hal1 := fun w (p : Pm) => ral8_c p y hy w
  have hal2 := fun w (p : Pm) => ral8_c p z hz' w
  have ekd : y.kd.toNat = k := by omega
  have ejd : z.kd.toNat = j := by omega
  obtain ⟨K1, e1⟩ : ∃ K1, walkL S L r a y = K1 := ⟨_, rfl⟩
  obtain ⟨K2, e4⟩ : ∃ K1, walkL S L r a z = K1 := ⟨_, rfl⟩
  obtain ⟨G1, e2⟩ : ∃ G1, walkF S L r a y = G1 := ⟨_, rfl⟩
  obtain ⟨G2, e5⟩ : ∃ G1, walkF S L r a z = G1 := ⟨_, rfl⟩
  obtain ⟨F1, e3⟩ : ∃ F1, fltF (walkS S L r a y) y.kd.toNat a = F1 := ⟨_, rfl⟩
  obtain ⟨F2, e6⟩ : ∃ F1, fltF (walkS S L r a z) z.kd.toNat a = F1 := ⟨_, rfl⟩
  by_cases hso : (lookN S L r a).so = 0
  case neg =>
    have s1 := (walk_fault (y := y) hso).1
    have s2 := (walk_fault (y := z) hso).1
    have hb1 := ftC_b hso k a
    have hb2 := ftC_b hso j a
    have e0 : fltF (lookN S L r a).so k a = F1 := by rw [← e3, s1, ekd]
    have e7 : fltF (lookN S L r a).so j a = F2 := by rw [← e6, s2, ejd]
    rw [e0] at hb1 hlk
    rw [e7] at hb2
    clear hal1 hal2 hk hj hso s1 s2 e0 e7 ekd ejd
    generalize (lookN S L r a).lf = f at *
    go_enter Tryd.func8, Tryd.ntmps8
    go_wp2_with fail
    refine (awake10_c _ (hT.ext HE.out)).mono ?_
    rintro e w' ⟨rfl, hE⟩
    (try replace hb := hb.ext hE); (try replace hc := hc.ext hE); (try replace hd := hd.ext hE); (try replace h1 := h1.ext hE); (try replace h2 := h2.ext hE); (try replace h3 := h3.ext hE); (try replace h4 := h4.ext hE); (try replace h5 := h5.ext hE); (try replace h6 := h6.ext hE); (try replace h7 := h7.ext hE); (try replace h8 := h8.ext hE); (try replace h9 := h9.ext hE); (try replace k1 := k1.ext hE); (try replace hM := hM.ext hE); (try replace hN := hN.ext hE); (try replace hO := hO.ext hE); (try replace HE := Lib.hid (HE.out.trans hE))
    clear hE
    go_wp2_with (refine wpList_load_blk (by rfl) 25 _ rfl rfl (by with_reducible assumption) Tryd.underlying25 rfl (by kernel_rfl) ?_)
    refine (fits10_c S A L c r hS hL hr _ (hrow.ext HE.out)).mono ?_
    rintro e w' ⟨rfl, hE⟩
    (try replace hb := hb.ext hE); (try replace hc := hc.ext hE); (try replace hd := hd.ext hE); (try replace h1 := h1.ext hE); (try replace h2 := h2.ext hE); (try replace h3 := h3.ext hE); (try replace h4 := h4.ext hE); (try replace h5 := h5.ext hE); (try replace h6 := h6.ext hE); (try replace h7 := h7.ext hE); (try replace h8 := h8.ext hE); (try replace h9 := h9.ext hE); (try replace k1 := k1.ext hE); (try replace hM := hM.ext hE); (try replace hN := hN.ext hE); (try replace hO := hO.ext hE); (try replace HE := Lib.hid (HE.out.trans hE))
    clear hE
    rw [hf]
    go_wp2_with (first | (refine wpList_load_blk (by rfl) 39 _ rfl rfl hc Tryd.underlying39 rfl (by kernel_rfl) ?_))
    refine (ris8_c y _).mono ?_
    rintro e w' ⟨rfl, hE⟩
    (try replace hb := hb.ext hE); (try replace hc := hc.ext hE); (try replace hd := hd.ext hE); (try replace h1 := h1.ext hE); (try replace h2 := h2.ext hE); (try replace h3 := h3.ext hE); (try replace h4 := h4.ext hE); (try replace h5 := h5.ext hE); (try replace h6 := h6.ext hE); (try replace h7 := h7.ext hE); (try replace h8 := h8.ext hE); (try replace h9 := h9.ext hE); (try replace k1 := k1.ext hE); (try replace hM := hM.ext hE); (try replace hN := hN.ext hE); (try replace hO := hO.ext hE); (try replace HE := Lib.hid (HE.out.trans hE))
    clear hE
    rw [hy]
    go_wp2_with (first | (refine wpList_load_blk (by rfl) 39 _ rfl rfl hd Tryd.underlying39 rfl (by kernel_rfl) ?_))
    refine (ris8_c z _).mono ?_
    rintro e w' ⟨rfl, hE⟩
    (try replace hb := hb.ext hE); (try replace hc := hc.ext hE); (try replace hd := hd.ext hE); (try replace h1 := h1.ext hE); (try replace h2 := h2.ext hE); (try replace h3 := h3.ext hE); (try replace h4 := h4.ext hE); (try replace h5 := h5.ext hE); (try replace h6 := h6.ext hE); (try replace h7 := h7.ext hE); (try replace h8 := h8.ext hE); (try replace h9 := h9.ext hE); (try replace k1 := k1.ext hE); (try replace hM := hM.ext hE); (try replace hN := hN.ext hE); (try replace hO := hO.ext hE); (try replace HE := Lib.hid (HE.out.trans hE))
    clear hE
    rw [hz']
    clear hf
    go_wp2_with (first | (refine wpList_load_blk (by rfl) 25 _ rfl rfl hb Tryd.underlying25 rfl (by kernel_rfl) ?_) | (refine wpList_load_blk (by rfl) 39 _ rfl rfl hc Tryd.underlying39 rfl (by kernel_rfl) ?_))
    refine (hwk _ (hM.ext HE.out) (hT.ext HE.out)).mono ?_
    rintro e w' ⟨A2, c2, rfl, hN, -, hE⟩
    rw [e1] at hN ⊢
    rw [e2, e3]
    replace hb := hb.ext hE
    replace hc := hc.ext hE
    replace hd := hd.ext hE
    replace HE := Lib.hid (HE.out.trans hE)
    clear hE hwk e1 e2 e3
    have q0 := Lib.hid hd.lt
    have o2 := Lib.hid (fun hi => hN.out hi)
    have zz1 : Blk (((w'.alloc (.cells #[.int .u64 0, .slice none 0 0] 25)).alloc (.cells #[.int .i64 0, .int .u64 0, .bool false, .bool false, .bool false, .bool false, .bool false, .bool false, .bool false, .bool false, .int .u64 0, .int .u64 0, .int .u64 0] 31)).alloc (.cells #[.bool false, .int .i64 0, .int .u64 0] 33)) w'.heap.size 25 #[.int .u64 0, .slice none 0 0] := ((Blk.new _ _ _).alloc _).alloc _; have zz2 : Blk ((((w'.alloc (.cells #[.int .u64 0, .slice none 0 0] 25)).alloc (.cells #[.int .i64 0, .int .u64 0, .bool false, .bool false, .bool false, .bool false, .bool false, .bool false, .bool false, .bool false, .int .u64 0, .int .u64 0, .int .u64 0] 31)).alloc (.cells #[.bool false, .int .i64 0, .int .u64 0] 33)).setRow w'.heap.size #[.int .u64 (S : Int), .slice A2 K1.length c2]) (w'.heap.size + 1) 31 #[.int .i64 0, .int .u64 0, .bool false, .bool false, .bool false, .bool false, .bool false, .bool false, .bool false, .bool false, .int .u64 0, .int .u64 0, .int .u64 0] := Blk.apart ((blk_at (by simp)).alloc _) (by omega) _; have zz3 : Blk (((((w'.alloc (.cells #[.int .u64 0, .slice none 0 0] 25)).alloc (.cells #[.int .i64 0, .int .u64 0, .bool false, .bool false, .bool false, .bool false, .bool false, .bool false, .bool false, .bool false, .int .u64 0, .int .u64 0, .int .u64 0] 31)).alloc (.cells #[.bool false, .int .i64 0, .int .u64 0] 33)).setRow w'.heap.size #[.int .u64 (S : Int), .slice A2 K1.length c2]).setRow (w'.heap.size + 1) (lfC G1)) (w'.heap.size + 1 + 1) 33 #[.bool false, .int .i64 0, .int .u64 0] := Blk.apart (Blk.apart (blk_at (by simp)) (by omega) _) (by omega) _; have hE := ((((((Ext.refl w').alloc (.cells #[.int .u64 0, .slice none 0 0] 25)).alloc (.cells #[.int .i64 0, .int .u64 0, .bool false, .bool false, .bool false, .bool false, .bool false, .bool false, .bool false, .bool false, .int .u64 0, .int .u64 0, .int .u64 0] 31)).alloc (.cells #[.bool false, .int .i64 0, .int .u64 0] 33)).row (show w'.heap.size ≤ w'.heap.size from Nat.le_refl _) #[.int .u64 (S : Int), .slice A2 K1.length c2]).row (show w'.heap.size ≤ w'.heap.size + 1 by omega) (lfC G1)).row (show w'.heap.size ≤ w'.heap.size + 1 + 1 by omega) (ftC F1); (try replace hb := hb.ext hE); (try replace hc := hc.ext hE); (try replace hd := hd.ext hE); (try replace h1 := h1.ext hE); (try replace h2 := h2.ext hE); (try replace h3 := h3.ext hE); (try replace h4 := h4.ext hE); (try replace h5 := h5.ext hE); (try replace h6 := h6.ext hE); (try replace h7 := h7.ext hE); (try replace h8 := h8.ext hE); (try replace h9 := h9.ext hE); (try replace k1 := k1.ext hE); (try replace hM := hM.ext hE); (try replace hN := hN.ext hE); (try replace hO := hO.ext hE); (try replace HE := Lib.hid (HE.out.trans hE)); clear hE; have h1 := ((zz1.row #[.int .u64 (S : Int), .slice A2 K1.length c2]).apart (show w'.heap.size ≠ w'.heap.size + 1 by omega) (lfC G1)).apart (show w'.heap.size ≠ w'.heap.size + 1 + 1 by omega) (ftC F1); have h2 := (zz2.row (lfC G1)).apart (show w'.heap.size + 1 ≠ w'.heap.size + 1 + 1 by omega) (ftC F1); have h3 := zz3.row (ftC F1)
    go_wp2_with (first | (first | (refine wpList_store_blk rfl 25 _ _ rfl rfl rfl zz1 (by kernel_rfl) (by rfl) (by simp [Value.oneCell']) ?_) | (refine wpList_store_blk rfl 31 _ _ rfl rfl rfl zz2 (lf_info _) (by simp [lfC_size]) (lfC_one _) ?_) | ((refine wpList_store_blk rfl 33 _ _ rfl rfl rfl zz3 (ft_info _) (by simp [ftC_size]) (ftC_one _) ?_); clear zz1 zz2 zz3; generalize (((((w'.alloc (.cells #[.int .u64 0, .slice none 0 0] 25)).alloc (.cells #[.int .i64 0, .int .u64 0, .bool false, .bool false, .bool false, .bool false, .bool false, .bool false, .bool false, .bool false, .int .u64 0, .int .u64 0, .int .u64 0] 31)).alloc (.cells #[.bool false, .int .i64 0, .int .u64 0] 33)).setRow w'.heap.size #[.int .u64 (S : Int), .slice A2 K1.length c2]).setRow (w'.heap.size + 1) (lfC G1)).setRow (w'.heap.size + 1 + 1) (ftC F1) = X at *) | (refine wpList_load_blk (by rfl) 25 _ rfl rfl (by first | exact h1 | exact h2 | exact h3 | exact h4 | exact h5 | exact h6 | exact h7 | exact h8 | exact h9 | exact k1 | exact hb | exact hc | exact hd) Tryd.underlying25 rfl (by kernel_rfl) ?_) | (refine wpList_load_blk (by rfl) 31 _ rfl rfl (by first | exact h1 | exact h2 | exact h3 | exact h4 | exact h5 | exact h6 | exact h7 | exact h8 | exact h9 | exact k1 | exact hb | exact hc | exact hd) Tryd.underlying31 rfl (by kernel_rfl) ?_) | (refine wpList_load_blk (by rfl) 33 _ rfl rfl (by first | exact h1 | exact h2 | exact h3 | exact h4 | exact h5 | exact h6 | exact h7 | exact h8 | exact h9 | exact k1 | exact hb | exact hc | exact hd) Tryd.underlying33 rfl (by kernel_rfl) ?_) | (refine wpList_load_blk (by rfl) 39 _ rfl rfl (by first | exact h1 | exact h2 | exact h3 | exact h4 | exact h5 | exact h6 | exact h7 | exact h8 | exact h9 | exact k1 | exact hb | exact hc | exact hd) Tryd.underlying39 rfl (by kernel_rfl) ?_) | (refine wpList_cmp (op := .eql) (by rfl) 31 rfl rfl rfl (lf_guard) ((fun w => run_b (eql_lf w _ _) (dec_same _))) ?_) | (refine wpList_cmp (op := .neq) (by rfl) 31 rfl rfl rfl (lf_guard) ((fun w => run_b (neq_lf w _ _) (dec_nots _))) ?_) | (refine wpList_cmp (op := .neq) (by rfl) 33 rfl rfl rfl (ft_guard) ((fun w => run_b (neq_ft w _ _) (dec_nots _))) ?_) | (refine wpList_cmp (op := .eql) (by rfl) 33 rfl rfl rfl (ft_guard) ((fun w => run_b (eql_ft w _ _) (dec_same _))) ?_)) | (refine wpList_load_blk (by rfl) 25 _ rfl rfl hb Tryd.underlying25 rfl (by kernel_rfl) ?_) | (refine wpList_load_blk (by rfl) 39 _ rfl rfl hd Tryd.underlying39 rfl (by kernel_rfl) ?_))
    generalize w'.heap.size = g1 at *
    have q1 := Lib.hid h3.lt
    refine (hvk _ (hM.ext HE.out) (hT.ext HE.out)).mono ?_
    rintro e w' ⟨A3, c3, rfl, hO', ho3, hE⟩
    rw [e4] at hO' ho3 ⊢
    rw [e5, e6]
    have o3 := Lib.hid ((ho3 w.heap.size _ (Nat.le_refl _) (hM.out _)).mono (show g1 + 1 + 1 ≤ _ by have := q1.out; omega))
    replace q1 := Lib.hid (Nat.lt_of_lt_of_le q1.out hE.size)
    (try replace hb := hb.ext hE); (try replace hc := hc.ext hE); (try replace hd := hd.ext hE); (try replace h1 := h1.ext hE); (try replace h2 := h2.ext hE); (try replace h3 := h3.ext hE); (try replace h4 := h4.ext hE); (try replace h5 := h5.ext hE); (try replace h6 := h6.ext hE); (try replace h7 := h7.ext hE); (try replace h8 := h8.ext hE); (try replace h9 := h9.ext hE); (try replace k1 := k1.ext hE); (try replace hM := hM.ext hE); (try replace hN := hN.ext hE); (try replace hO := hO.ext hE); (try replace HE := Lib.hid (HE.out.trans hE))
    clear hE hvk e4 e5 e6 ho3
    have hO := hO'
    clear hO'
    have zz1 : Blk (((w'.alloc (.cells #[.int .u64 0, .slice none 0 0] 25)).alloc (.cells #[.int .i64 0, .int .u64 0, .bool false, .bool false, .bool false, .bool false, .bool false, .bool false, .bool false, .bool false, .int .u64 0, .int .u64 0, .int .u64 0] 31)).alloc (.cells #[.bool false, .int .i64 0, .int .u64 0] 33)) w'.heap.size 25 #[.int .u64 0, .slice none 0 0] := ((Blk.new _ _ _).alloc _).alloc _; have zz2 : Blk ((((w'.alloc (.cells #[.int .u64 0, .slice none 0 0] 25)).alloc (.cells #[.int .i64 0, .int .u64 0, .bool false, .bool false, .bool false, .bool false, .bool false, .bool false, .bool false, .bool false, .int .u64 0, .int .u64 0, .int .u64 0] 31)).alloc (.cells #[.bool false, .int .i64 0, .int .u64 0] 33)).setRow w'.heap.size #[.int .u64 (S : Int), .slice A3 K2.length c3]) (w'.heap.size + 1) 31 #[.int .i64 0, .int .u64 0, .bool false, .bool false, .bool false, .bool false, .bool false, .bool false, .bool false, .bool false, .int .u64 0, .int .u64 0, .int .u64 0] := Blk.apart ((blk_at (by simp)).alloc _) (by omega) _; have zz3 : Blk (((((w'.alloc (.cells #[.int .u64 0, .slice none 0 0] 25)).alloc (.cells #[.int .i64 0, .int .u64 0, .bool false, .bool false, .bool false, .bool false, .bool false, .bool false, .bool false, .bool false, .int .u64 0, .int .u64 0, .int .u64 0] 31)).alloc (.cells #[.bool false, .int .i64 0, .int .u64 0] 33)).setRow w'.heap.size #[.int .u64 (S : Int), .slice A3 K2.length c3]).setRow (w'.heap.size + 1) (lfC G2)) (w'.heap.size + 1 + 1) 33 #[.bool false, .int .i64 0, .int .u64 0] := Blk.apart (Blk.apart (blk_at (by simp)) (by omega) _) (by omega) _; have hE := ((((((Ext.refl w').alloc (.cells #[.int .u64 0, .slice none 0 0] 25)).alloc (.cells #[.int .i64 0, .int .u64 0, .bool false, .bool false, .bool false, .bool false, .bool false, .bool false, .bool false, .bool false, .int .u64 0, .int .u64 0, .int .u64 0] 31)).alloc (.cells #[.bool false, .int .i64 0, .int .u64 0] 33)).row (show w'.heap.size ≤ w'.heap.size from Nat.le_refl _) #[.int .u64 (S : Int), .slice A3 K2.length c3]).row (show w'.heap.size ≤ w'.heap.size + 1 by omega) (lfC G2)).row (show w'.heap.size ≤ w'.heap.size + 1 + 1 by omega) (ftC F2); (try replace hb := hb.ext hE); (try replace hc := hc.ext hE); (try replace hd := hd.ext hE); (try replace h1 := h1.ext hE); (try replace h2 := h2.ext hE); (try replace h3 := h3.ext hE); (try replace h4 := h4.ext hE); (try replace h5 := h5.ext hE); (try replace h6 := h6.ext hE); (try replace h7 := h7.ext hE); (try replace h8 := h8.ext hE); (try replace h9 := h9.ext hE); (try replace k1 := k1.ext hE); (try replace hM := hM.ext hE); (try replace hN := hN.ext hE); (try replace hO := hO.ext hE); (try replace HE := Lib.hid (HE.out.trans hE)); clear hE; have h4 := ((zz1.row #[.int .u64 (S : Int), .slice A3 K2.length c3]).apart (show w'.heap.size ≠ w'.heap.size + 1 by omega) (lfC G2)).apart (show w'.heap.size ≠ w'.heap.size + 1 + 1 by omega) (ftC F2); have h5 := (zz2.row (lfC G2)).apart (show w'.heap.size + 1 ≠ w'.heap.size + 1 + 1 by omega) (ftC F2); have h6 := zz3.row (ftC F2)
    have x0 := (hc.cell 0).trans hy0
    go_wp2_with (first | (first | (refine wpList_store_blk rfl 25 _ _ rfl rfl rfl zz1 (by kernel_rfl) (by rfl) (by simp [Value.oneCell']) ?_) | (refine wpList_store_blk rfl 31 _ _ rfl rfl rfl zz2 (lf_info _) (by simp [lfC_size]) (lfC_one _) ?_) | ((refine wpList_store_blk rfl 33 _ _ rfl rfl rfl zz3 (ft_info _) (by simp [ftC_size]) (ftC_one _) ?_); clear zz1 zz2 zz3; generalize (((((w'.alloc (.cells #[.int .u64 0, .slice none 0 0] 25)).alloc (.cells #[.int .i64 0, .int .u64 0, .bool false, .bool false, .bool false, .bool false, .bool false, .bool false, .bool false, .bool false, .int .u64 0, .int .u64 0, .int .u64 0] 31)).alloc (.cells #[.bool false, .int .i64 0, .int .u64 0] 33)).setRow w'.heap.size #[.int .u64 (S : Int), .slice A3 K2.length c3]).setRow (w'.heap.size + 1) (lfC G2)).setRow (w'.heap.size + 1 + 1) (ftC F2) = X at *) | (refine wpList_load_blk (by rfl) 25 _ rfl rfl (by first | exact h1 | exact h2 | exact h3 | exact h4 | exact h5 | exact h6 | exact h7 | exact h8 | exact h9 | exact k1 | exact hb | exact hc | exact hd) Tryd.underlying25 rfl (by kernel_rfl) ?_) | (refine wpList_load_blk (by rfl) 31 _ rfl rfl (by first | exact h1 | exact h2 | exact h3 | exact h4 | exact h5 | exact h6 | exact h7 | exact h8 | exact h9 | exact k1 | exact hb | exact hc | exact hd) Tryd.underlying31 rfl (by kernel_rfl) ?_) | (refine wpList_load_blk (by rfl) 33 _ rfl rfl (by first | exact h1 | exact h2 | exact h3 | exact h4 | exact h5 | exact h6 | exact h7 | exact h8 | exact h9 | exact k1 | exact hb | exact hc | exact hd) Tryd.underlying33 rfl (by kernel_rfl) ?_) | (refine wpList_load_blk (by rfl) 39 _ rfl rfl (by first | exact h1 | exact h2 | exact h3 | exact h4 | exact h5 | exact h6 | exact h7 | exact h8 | exact h9 | exact k1 | exact hb | exact hc | exact hd) Tryd.underlying39 rfl (by kernel_rfl) ?_) | (refine wpList_cmp (op := .eql) (by rfl) 31 rfl rfl rfl (lf_guard) ((fun w => run_b (eql_lf w _ _) (dec_same _))) ?_) | (refine wpList_cmp (op := .neq) (by rfl) 31 rfl rfl rfl (lf_guard) ((fun w => run_b (neq_lf w _ _) (dec_nots _))) ?_) | (refine wpList_cmp (op := .neq) (by rfl) 33 rfl rfl rfl (ft_guard) ((fun w => run_b (neq_ft w _ _) (dec_nots _))) ?_) | (refine wpList_cmp (op := .eql) (by rfl) 33 rfl rfl rfl (ft_guard) ((fun w => run_b (eql_ft w _ _) (dec_same _))) ?_)) | (refine wpList_load_blk (by rfl) 25 _ rfl rfl hb Tryd.underlying25 rfl (by kernel_rfl) ?_))
    clear x0
    generalize w'.heap.size = g2 at *
    refine (hlk _ (hM.ext HE.out) (hT.ext HE.out)).mono ?_
    rintro e w' ⟨rfl, hE⟩
    (try replace hb := hb.ext hE); (try replace hc := hc.ext hE); (try replace hd := hd.ext hE); (try replace h1 := h1.ext hE); (try replace h2 := h2.ext hE); (try replace h3 := h3.ext hE); (try replace h4 := h4.ext hE); (try replace h5 := h5.ext hE); (try replace h6 := h6.ext hE); (try replace h7 := h7.ext hE); (try replace h8 := h8.ext hE); (try replace h9 := h9.ext hE); (try replace k1 := k1.ext hE); (try replace hM := hM.ext hE); (try replace hN := hN.ext hE); (try replace hO := hO.ext hE); (try replace HE := Lib.hid (HE.out.trans hE))
    clear hE hlk
    have q2 := Lib.hid h6.lt
    have zz1 : Blk ((w'.alloc (.cells #[.int .i64 0, .int .u64 0, .bool false, .bool false, .bool false, .bool false, .bool false, .bool false, .bool false, .bool false, .int .u64 0, .int .u64 0, .int .u64 0] 31)).alloc (.cells #[.bool false, .int .i64 0, .int .u64 0] 33)) w'.heap.size 31 #[.int .i64 0, .int .u64 0, .bool false, .bool false, .bool false, .bool false, .bool false, .bool false, .bool false, .bool false, .int .u64 0, .int .u64 0, .int .u64 0] := (Blk.new _ _ _).alloc _; have zz2 : Blk (((w'.alloc (.cells #[.int .i64 0, .int .u64 0, .bool false, .bool false, .bool false, .bool false, .bool false, .bool false, .bool false, .bool false, .int .u64 0, .int .u64 0, .int .u64 0] 31)).alloc (.cells #[.bool false, .int .i64 0, .int .u64 0] 33)).setRow w'.heap.size (lfC f)) (w'.heap.size + 1) 33 #[.bool false, .int .i64 0, .int .u64 0] := Blk.apart (blk_at (by simp)) (by omega) _; have hE := ((((Ext.refl w').alloc (.cells #[.int .i64 0, .int .u64 0, .bool false, .bool false, .bool false, .bool false, .bool false, .bool false, .bool false, .bool false, .int .u64 0, .int .u64 0, .int .u64 0] 31)).alloc (.cells #[.bool false, .int .i64 0, .int .u64 0] 33)).row (show w'.heap.size ≤ w'.heap.size from Nat.le_refl _) (lfC f)).row (show w'.heap.size ≤ w'.heap.size + 1 by omega) (ftC F1); (try replace hb := hb.ext hE); (try replace hc := hc.ext hE); (try replace hd := hd.ext hE); (try replace h1 := h1.ext hE); (try replace h2 := h2.ext hE); (try replace h3 := h3.ext hE); (try replace h4 := h4.ext hE); (try replace h5 := h5.ext hE); (try replace h6 := h6.ext hE); (try replace h7 := h7.ext hE); (try replace h8 := h8.ext hE); (try replace h9 := h9.ext hE); (try replace k1 := k1.ext hE); (try replace hM := hM.ext hE); (try replace hN := hN.ext hE); (try replace hO := hO.ext hE); (try replace HE := Lib.hid (HE.out.trans hE)); clear hE; have h7 := (zz1.row (lfC f)).apart (show w'.heap.size ≠ w'.heap.size + 1 by omega) (ftC F1); have h8 := zz2.row (ftC F1)
    have x1 := (h8.cell 0).trans hb1
    have x2 := (h3.cell 0).trans hb1
    have x3 := (h6.cell 0).trans hb2
    go_wp2_with (first | (first | (refine wpList_store_blk rfl 31 _ _ rfl rfl rfl zz1 (lf_info _) (by simp [lfC_size]) (lfC_one _) ?_) | ((refine wpList_store_blk rfl 33 _ _ rfl rfl rfl zz2 (ft_info _) (by simp [ftC_size]) (ftC_one _) ?_); clear zz1 zz2; generalize (((w'.alloc (.cells #[.int .i64 0, .int .u64 0, .bool false, .bool false, .bool false, .bool false, .bool false, .bool false, .bool false, .bool false, .int .u64 0, .int .u64 0, .int .u64 0] 31)).alloc (.cells #[.bool false, .int .i64 0, .int .u64 0] 33)).setRow w'.heap.size (lfC f)).setRow (w'.heap.size + 1) (ftC F1) = X at *) | (refine wpList_load_blk (by rfl) 25 _ rfl rfl (by first | exact h1 | exact h2 | exact h3 | exact h4 | exact h5 | exact h6 | exact h7 | exact h8 | exact h9 | exact k1 | exact hb | exact hc | exact hd) Tryd.underlying25 rfl (by kernel_rfl) ?_) | (refine wpList_load_blk (by rfl) 31 _ rfl rfl (by first | exact h1 | exact h2 | exact h3 | exact h4 | exact h5 | exact h6 | exact h7 | exact h8 | exact h9 | exact k1 | exact hb | exact hc | exact hd) Tryd.underlying31 rfl (by kernel_rfl) ?_) | (refine wpList_load_blk (by rfl) 33 _ rfl rfl (by first | exact h1 | exact h2 | exact h3 | exact h4 | exact h5 | exact h6 | exact h7 | exact h8 | exact h9 | exact k1 | exact hb | exact hc | exact hd) Tryd.underlying33 rfl (by kernel_rfl) ?_) | (refine wpList_load_blk (by rfl) 39 _ rfl rfl (by first | exact h1 | exact h2 | exact h3 | exact h4 | exact h5 | exact h6 | exact h7 | exact h8 | exact h9 | exact k1 | exact hb | exact hc | exact hd) Tryd.underlying39 rfl (by kernel_rfl) ?_) | (refine wpList_cmp (op := .eql) (by rfl) 31 rfl rfl rfl (lf_guard) ((fun w => run_b (eql_lf w _ _) (dec_same _))) ?_) | (refine wpList_cmp (op := .neq) (by rfl) 31 rfl rfl rfl (lf_guard) ((fun w => run_b (neq_lf w _ _) (dec_nots _))) ?_) | (refine wpList_cmp (op := .neq) (by rfl) 33 rfl rfl rfl (ft_guard) ((fun w => run_b (neq_ft w _ _) (dec_nots _))) ?_) | (refine wpList_cmp (op := .eql) (by rfl) 33 rfl rfl rfl (ft_guard) ((fun w => run_b (eql_ft w _ _) (dec_same _))) ?_)))
    go_ret
    exact ⟨rfl, HE.out⟩
  have hlf := (look_leaf hso).2
  rw [hso, flt_zero] at hlk
  have hb1 : (ftC F1)[0]? = some (.bool (!pmAl (permP (lookN S L r a).lf.pt) y)) := by
    rw [← e3]
    cases hp : pmAl (permP (lookN S L r a).lf.pt) y
    · rw [(walk_not hso hp).1]; exact ftC_b (by decide) _ _
    · rw [(walk_yes hso hp).1, flt_zero]; exact ftC_z0
  have hb2 : (ftC F2)[0]? = some (.bool (!pmAl (permP (lookN S L r a).lf.pt) z)) := by
    rw [← e6]
    cases hp : pmAl (permP (lookN S L r a).lf.pt) z
    · rw [(walk_not hso hp).1]; exact ftC_b (by decide) _ _
    · rw [(walk_yes hso hp).1, flt_zero]; exact ftC_z0
  have hw : pmAl (permP (lookN S L r a).lf.pt) y = true → pmAl (permP (lookN S L r a).lf.pt) z = true → ∃ N1 N2, Ways S (lookN S L r a).lf (y.kd == 2) (z.kd == 2) K1 K2 G1 G2 N1 N2 := fun h1 h2 => by
    obtain ⟨-, l1, f1⟩ := walk_yes hso h1
    obtain ⟨-, l2, f2⟩ := walk_yes hso h2
    exact ways_ok hM.rl hM.ok.mod8 hlf _ _ (e1.symm.trans l1) (e4.symm.trans l2) (e2.symm.trans f1) (e5.symm.trans f2)
  rw [hk, hj] at hw
  clear hso hk hj ekd ejd hlf
  generalize (lookN S L r a).lf = f at *
  have hw' := Lib.hid hw
  generalize hB1 : pmAl (permP f.pt) y = B1 at hb1
  generalize hB2 : pmAl (permP f.pt) z = B2 at hb2
  have HB1 := Lib.hid hB1
  have HB2 := Lib.hid hB2
  clear hw hB1 hB2
  go_enter Tryd.func8, Tryd.ntmps8
  go_wp2_with fail
  refine (awake10_c _ (hT.ext HE.out)).mono ?_
  rintro e w' ⟨rfl, hE⟩
  (try replace hb := hb.ext hE); (try replace hc := hc.ext hE); (try replace hd := hd.ext hE); (try replace h1 := h1.ext hE); (try replace h2 := h2.ext hE); (try replace h3 := h3.ext hE); (try replace h4 := h4.ext hE); (try replace h5 := h5.ext hE); (try replace h6 := h6.ext hE); (try replace h7 := h7.ext hE); (try replace h8 := h8.ext hE); (try replace h9 := h9.ext hE); (try replace k1 := k1.ext hE); (try replace hM := hM.ext hE); (try replace hN := hN.ext hE); (try replace hO := hO.ext hE); (try replace HE := Lib.hid (HE.out.trans hE))
  clear hE
  go_wp2_with (refine wpList_load_blk (by rfl) 25 _ rfl rfl (by with_reducible assumption) Tryd.underlying25 rfl (by kernel_rfl) ?_)
  refine (fits10_c S A L c r hS hL hr _ (hrow.ext HE.out)).mono ?_
  rintro e w' ⟨rfl, hE⟩
  (try replace hb := hb.ext hE); (try replace hc := hc.ext hE); (try replace hd := hd.ext hE); (try replace h1 := h1.ext hE); (try replace h2 := h2.ext hE); (try replace h3 := h3.ext hE); (try replace h4 := h4.ext hE); (try replace h5 := h5.ext hE); (try replace h6 := h6.ext hE); (try replace h7 := h7.ext hE); (try replace h8 := h8.ext hE); (try replace h9 := h9.ext hE); (try replace k1 := k1.ext hE); (try replace hM := hM.ext hE); (try replace hN := hN.ext hE); (try replace hO := hO.ext hE); (try replace HE := Lib.hid (HE.out.trans hE))
  clear hE
  rw [hf]
  go_wp2_with (first | (refine wpList_load_blk (by rfl) 39 _ rfl rfl hc Tryd.underlying39 rfl (by kernel_rfl) ?_))
  refine (ris8_c y _).mono ?_
  rintro e w' ⟨rfl, hE⟩
  (try replace hb := hb.ext hE); (try replace hc := hc.ext hE); (try replace hd := hd.ext hE); (try replace h1 := h1.ext hE); (try replace h2 := h2.ext hE); (try replace h3 := h3.ext hE); (try replace h4 := h4.ext hE); (try replace h5 := h5.ext hE); (try replace h6 := h6.ext hE); (try replace h7 := h7.ext hE); (try replace h8 := h8.ext hE); (try replace h9 := h9.ext hE); (try replace k1 := k1.ext hE); (try replace hM := hM.ext hE); (try replace hN := hN.ext hE); (try replace hO := hO.ext hE); (try replace HE := Lib.hid (HE.out.trans hE))
  clear hE
  rw [hy]
  go_wp2_with (first | (refine wpList_load_blk (by rfl) 39 _ rfl rfl hd Tryd.underlying39 rfl (by kernel_rfl) ?_))
  refine (ris8_c z _).mono ?_
  rintro e w' ⟨rfl, hE⟩
  (try replace hb := hb.ext hE); (try replace hc := hc.ext hE); (try replace hd := hd.ext hE); (try replace h1 := h1.ext hE); (try replace h2 := h2.ext hE); (try replace h3 := h3.ext hE); (try replace h4 := h4.ext hE); (try replace h5 := h5.ext hE); (try replace h6 := h6.ext hE); (try replace h7 := h7.ext hE); (try replace h8 := h8.ext hE); (try replace h9 := h9.ext hE); (try replace k1 := k1.ext hE); (try replace hM := hM.ext hE); (try replace hN := hN.ext hE); (try replace hO := hO.ext hE); (try replace HE := Lib.hid (HE.out.trans hE))
  clear hE
  rw [hz']
  clear hf
  go_wp2_with (first | (refine wpList_load_blk (by rfl) 25 _ rfl rfl hb Tryd.underlying25 rfl (by kernel_rfl) ?_) | (refine wpList_load_blk (by rfl) 39 _ rfl rfl hc Tryd.underlying39 rfl (by kernel_rfl) ?_))
  refine (hwk _ (hM.ext HE.out) (hT.ext HE.out)).mono ?_
  rintro e w' ⟨A2, c2, rfl, hN, -, hE⟩
  rw [e1] at hN ⊢
  rw [e2, e3]
  replace hb := hb.ext hE
  replace hc := hc.ext hE
  replace hd := hd.ext hE
  replace HE := Lib.hid (HE.out.trans hE)
  clear hE hwk e1 e2 e3
  have q0 := Lib.hid hd.lt
  have o2 := Lib.hid (fun hi => hN.out hi)
  have zz1 : Blk (((w'.alloc (.cells #[.int .u64 0, .slice none 0 0] 25)).alloc (.cells #[.int .i64 0, .int .u64 0, .bool false, .bool false, .bool false, .bool false, .bool false, .bool false, .bool false, .bool false, .int .u64 0, .int .u64 0, .int .u64 0] 31)).alloc (.cells #[.bool false, .int .i64 0, .int .u64 0] 33)) w'.heap.size 25 #[.int .u64 0, .slice none 0 0] := ((Blk.new _ _ _).alloc _).alloc _; have zz2 : Blk ((((w'.alloc (.cells #[.int .u64 0, .slice none 0 0] 25)).alloc (.cells #[.int .i64 0, .int .u64 0, .bool false, .bool false, .bool false, .bool false, .bool false, .bool false, .bool false, .bool false, .int .u64 0, .int .u64 0, .int .u64 0] 31)).alloc (.cells #[.bool false, .int .i64 0, .int .u64 0] 33)).setRow w'.heap.size #[.int .u64 (S : Int), .slice A2 K1.length c2]) (w'.heap.size + 1) 31 #[.int .i64 0, .int .u64 0, .bool false, .bool false, .bool false, .bool false, .bool false, .bool false, .bool false, .bool false, .int .u64 0, .int .u64 0, .int .u64 0] := Blk.apart ((blk_at (by simp)).alloc _) (by omega) _; have zz3 : Blk (((((w'.alloc (.cells #[.int .u64 0, .slice none 0 0] 25)).alloc (.cells #[.int .i64 0, .int .u64 0, .bool false, .bool false, .bool false, .bool false, .bool false, .bool false, .bool false, .bool false, .int .u64 0, .int .u64 0, .int .u64 0] 31)).alloc (.cells #[.bool false, .int .i64 0, .int .u64 0] 33)).setRow w'.heap.size #[.int .u64 (S : Int), .slice A2 K1.length c2]).setRow (w'.heap.size + 1) (lfC G1)) (w'.heap.size + 1 + 1) 33 #[.bool false, .int .i64 0, .int .u64 0] := Blk.apart (Blk.apart (blk_at (by simp)) (by omega) _) (by omega) _; have hE := ((((((Ext.refl w').alloc (.cells #[.int .u64 0, .slice none 0 0] 25)).alloc (.cells #[.int .i64 0, .int .u64 0, .bool false, .bool false, .bool false, .bool false, .bool false, .bool false, .bool false, .bool false, .int .u64 0, .int .u64 0, .int .u64 0] 31)).alloc (.cells #[.bool false, .int .i64 0, .int .u64 0] 33)).row (show w'.heap.size ≤ w'.heap.size from Nat.le_refl _) #[.int .u64 (S : Int), .slice A2 K1.length c2]).row (show w'.heap.size ≤ w'.heap.size + 1 by omega) (lfC G1)).row (show w'.heap.size ≤ w'.heap.size + 1 + 1 by omega) (ftC F1); (try replace hb := hb.ext hE); (try replace hc := hc.ext hE); (try replace hd := hd.ext hE); (try replace h1 := h1.ext hE); (try replace h2 := h2.ext hE); (try replace h3 := h3.ext hE); (try replace h4 := h4.ext hE); (try replace h5 := h5.ext hE); (try replace h6 := h6.ext hE); (try replace h7 := h7.ext hE); (try replace h8 := h8.ext hE); (try replace h9 := h9.ext hE); (try replace k1 := k1.ext hE); (try replace hM := hM.ext hE); (try replace hN := hN.ext hE); (try replace hO := hO.ext hE); (try replace HE := Lib.hid (HE.out.trans hE)); clear hE; have h1 := ((zz1.row #[.int .u64 (S : Int), .slice A2 K1.length c2]).apart (show w'.heap.size ≠ w'.heap.size + 1 by omega) (lfC G1)).apart (show w'.heap.size ≠ w'.heap.size + 1 + 1 by omega) (ftC F1); have h2 := (zz2.row (lfC G1)).apart (show w'.heap.size + 1 ≠ w'.heap.size + 1 + 1 by omega) (ftC F1); have h3 := zz3.row (ftC F1)
  go_wp2_with (first | (first | (refine wpList_store_blk rfl 25 _ _ rfl rfl rfl zz1 (by kernel_rfl) (by rfl) (by simp [Value.oneCell']) ?_) | (refine wpList_store_blk rfl 31 _ _ rfl rfl rfl zz2 (lf_info _) (by simp [lfC_size]) (lfC_one _) ?_) | ((refine wpList_store_blk rfl 33 _ _ rfl rfl rfl zz3 (ft_info _) (by simp [ftC_size]) (ftC_one _) ?_); clear zz1 zz2 zz3; generalize (((((w'.alloc (.cells #[.int .u64 0, .slice none 0 0] 25)).alloc (.cells #[.int .i64 0, .int .u64 0, .bool false, .bool false, .bool false, .bool false, .bool false, .bool false, .bool false, .bool false, .int .u64 0, .int .u64 0, .int .u64 0] 31)).alloc (.cells #[.bool false, .int .i64 0, .int .u64 0] 33)).setRow w'.heap.size #[.int .u64 (S : Int), .slice A2 K1.length c2]).setRow (w'.heap.size + 1) (lfC G1)).setRow (w'.heap.size + 1 + 1) (ftC F1) = X at *) | (refine wpList_load_blk (by rfl) 25 _ rfl rfl (by first | exact h1 | exact h2 | exact h3 | exact h4 | exact h5 | exact h6 | exact h7 | exact h8 | exact h9 | exact k1 | exact hb | exact hc | exact hd) Tryd.underlying25 rfl (by kernel_rfl) ?_) | (refine wpList_load_blk (by rfl) 31 _ rfl rfl (by first | exact h1 | exact h2 | exact h3 | exact h4 | exact h5 | exact h6 | exact h7 | exact h8 | exact h9 | exact k1 | exact hb | exact hc | exact hd) Tryd.underlying31 rfl (by kernel_rfl) ?_) | (refine wpList_load_blk (by rfl) 33 _ rfl rfl (by first | exact h1 | exact h2 | exact h3 | exact h4 | exact h5 | exact h6 | exact h7 | exact h8 | exact h9 | exact k1 | exact hb | exact hc | exact hd) Tryd.underlying33 rfl (by kernel_rfl) ?_) | (refine wpList_load_blk (by rfl) 39 _ rfl rfl (by first | exact h1 | exact h2 | exact h3 | exact h4 | exact h5 | exact h6 | exact h7 | exact h8 | exact h9 | exact k1 | exact hb | exact hc | exact hd) Tryd.underlying39 rfl (by kernel_rfl) ?_) | (refine wpList_cmp (op := .eql) (by rfl) 31 rfl rfl rfl (lf_guard) ((fun w => run_b (eql_lf w _ _) (dec_same _))) ?_) | (refine wpList_cmp (op := .neq) (by rfl) 31 rfl rfl rfl (lf_guard) ((fun w => run_b (neq_lf w _ _) (dec_nots _))) ?_) | (refine wpList_cmp (op := .neq) (by rfl) 33 rfl rfl rfl (ft_guard) ((fun w => run_b (neq_ft w _ _) (dec_nots _))) ?_) | (refine wpList_cmp (op := .eql) (by rfl) 33 rfl rfl rfl (ft_guard) ((fun w => run_b (eql_ft w _ _) (dec_same _))) ?_)) | (refine wpList_load_blk (by rfl) 25 _ rfl rfl hb Tryd.underlying25 rfl (by kernel_rfl) ?_) | (refine wpList_load_blk (by rfl) 39 _ rfl rfl hd Tryd.underlying39 rfl (by kernel_rfl) ?_))
  generalize w'.heap.size = g1 at *
  have q1 := Lib.hid h3.lt
  refine (hvk _ (hM.ext HE.out) (hT.ext HE.out)).mono ?_
  rintro e w' ⟨A3, c3, rfl, hO', ho3, hE⟩
  rw [e4] at hO' ho3 ⊢
  rw [e5, e6]
  have o3 := Lib.hid ((ho3 w.heap.size _ (Nat.le_refl _) (hM.out _)).mono (show g1 + 1 + 1 ≤ _ by have := q1.out; omega))
  replace q1 := Lib.hid (Nat.lt_of_lt_of_le q1.out hE.size)
  (try replace hb := hb.ext hE); (try replace hc := hc.ext hE); (try replace hd := hd.ext hE); (try replace h1 := h1.ext hE); (try replace h2 := h2.ext hE); (try replace h3 := h3.ext hE); (try replace h4 := h4.ext hE); (try replace h5 := h5.ext hE); (try replace h6 := h6.ext hE); (try replace h7 := h7.ext hE); (try replace h8 := h8.ext hE); (try replace h9 := h9.ext hE); (try replace k1 := k1.ext hE); (try replace hM := hM.ext hE); (try replace hN := hN.ext hE); (try replace hO := hO.ext hE); (try replace HE := Lib.hid (HE.out.trans hE))
  clear hE hvk e4 e5 e6 ho3
  have hO := hO'
  clear hO'
  have zz1 : Blk (((w'.alloc (.cells #[.int .u64 0, .slice none 0 0] 25)).alloc (.cells #[.int .i64 0, .int .u64 0, .bool false, .bool false, .bool false, .bool false, .bool false, .bool false, .bool false, .bool false, .int .u64 0, .int .u64 0, .int .u64 0] 31)).alloc (.cells #[.bool false, .int .i64 0, .int .u64 0] 33)) w'.heap.size 25 #[.int .u64 0, .slice none 0 0] := ((Blk.new _ _ _).alloc _).alloc _; have zz2 : Blk ((((w'.alloc (.cells #[.int .u64 0, .slice none 0 0] 25)).alloc (.cells #[.int .i64 0, .int .u64 0, .bool false, .bool false, .bool false, .bool false, .bool false, .bool false, .bool false, .bool false, .int .u64 0, .int .u64 0, .int .u64 0] 31)).alloc (.cells #[.bool false, .int .i64 0, .int .u64 0] 33)).setRow w'.heap.size #[.int .u64 (S : Int), .slice A3 K2.length c3]) (w'.heap.size + 1) 31 #[.int .i64 0, .int .u64 0, .bool false, .bool false, .bool false, .bool false, .bool false, .bool false, .bool false, .bool false, .int .u64 0, .int .u64 0, .int .u64 0] := Blk.apart ((blk_at (by simp)).alloc _) (by omega) _; have zz3 : Blk (((((w'.alloc (.cells #[.int .u64 0, .slice none 0 0] 25)).alloc (.cells #[.int .i64 0, .int .u64 0, .bool false, .bool false, .bool false, .bool false, .bool false, .bool false, .bool false, .bool false, .int .u64 0, .int .u64 0, .int .u64 0] 31)).alloc (.cells #[.bool false, .int .i64 0, .int .u64 0] 33)).setRow w'.heap.size #[.int .u64 (S : Int), .slice A3 K2.length c3]).setRow (w'.heap.size + 1) (lfC G2)) (w'.heap.size + 1 + 1) 33 #[.bool false, .int .i64 0, .int .u64 0] := Blk.apart (Blk.apart (blk_at (by simp)) (by omega) _) (by omega) _; have hE := ((((((Ext.refl w').alloc (.cells #[.int .u64 0, .slice none 0 0] 25)).alloc (.cells #[.int .i64 0, .int .u64 0, .bool false, .bool false, .bool false, .bool false, .bool false, .bool false, .bool false, .bool false, .int .u64 0, .int .u64 0, .int .u64 0] 31)).alloc (.cells #[.bool false, .int .i64 0, .int .u64 0] 33)).row (show w'.heap.size ≤ w'.heap.size from Nat.le_refl _) #[.int .u64 (S : Int), .slice A3 K2.length c3]).row (show w'.heap.size ≤ w'.heap.size + 1 by omega) (lfC G2)).row (show w'.heap.size ≤ w'.heap.size + 1 + 1 by omega) (ftC F2); (try replace hb := hb.ext hE); (try replace hc := hc.ext hE); (try replace hd := hd.ext hE); (try replace h1 := h1.ext hE); (try replace h2 := h2.ext hE); (try replace h3 := h3.ext hE); (try replace h4 := h4.ext hE); (try replace h5 := h5.ext hE); (try replace h6 := h6.ext hE); (try replace h7 := h7.ext hE); (try replace h8 := h8.ext hE); (try replace h9 := h9.ext hE); (try replace k1 := k1.ext hE); (try replace hM := hM.ext hE); (try replace hN := hN.ext hE); (try replace hO := hO.ext hE); (try replace HE := Lib.hid (HE.out.trans hE)); clear hE; have h4 := ((zz1.row #[.int .u64 (S : Int), .slice A3 K2.length c3]).apart (show w'.heap.size ≠ w'.heap.size + 1 by omega) (lfC G2)).apart (show w'.heap.size ≠ w'.heap.size + 1 + 1 by omega) (ftC F2); have h5 := (zz2.row (lfC G2)).apart (show w'.heap.size + 1 ≠ w'.heap.size + 1 + 1 by omega) (ftC F2); have h6 := zz3.row (ftC F2)
  have x0 := (hc.cell 0).trans hy0
  go_wp2_with (first | (first | (refine wpList_store_blk rfl 25 _ _ rfl rfl rfl zz1 (by kernel_rfl) (by rfl) (by simp [Value.oneCell']) ?_) | (refine wpList_store_blk rfl 31 _ _ rfl rfl rfl zz2 (lf_info _) (by simp [lfC_size]) (lfC_one _) ?_) | ((refine wpList_store_blk rfl 33 _ _ rfl rfl rfl zz3 (ft_info _) (by simp [ftC_size]) (ftC_one _) ?_); clear zz1 zz2 zz3; generalize (((((w'.alloc (.cells #[.int .u64 0, .slice none 0 0] 25)).alloc (.cells #[.int .i64 0, .int .u64 0, .bool false, .bool false, .bool false, .bool false, .bool false, .bool false, .bool false, .bool false, .int .u64 0, .int .u64 0, .int .u64 0] 31)).alloc (.cells #[.bool false, .int .i64 0, .int .u64 0] 33)).setRow w'.heap.size #[.int .u64 (S : Int), .slice A3 K2.length c3]).setRow (w'.heap.size + 1) (lfC G2)).setRow (w'.heap.size + 1 + 1) (ftC F2) = X at *) | (refine wpList_load_blk (by rfl) 25 _ rfl rfl (by first | exact h1 | exact h2 | exact h3 | exact h4 | exact h5 | exact h6 | exact h7 | exact h8 | exact h9 | exact k1 | exact hb | exact hc | exact hd) Tryd.underlying25 rfl (by kernel_rfl) ?_) | (refine wpList_load_blk (by rfl) 31 _ rfl rfl (by first | exact h1 | exact h2 | exact h3 | exact h4 | exact h5 | exact h6 | exact h7 | exact h8 | exact h9 | exact k1 | exact hb | exact hc | exact hd) Tryd.underlying31 rfl (by kernel_rfl) ?_) | (refine wpList_load_blk (by rfl) 33 _ rfl rfl (by first | exact h1 | exact h2 | exact h3 | exact h4 | exact h5 | exact h6 | exact h7 | exact h8 | exact h9 | exact k1 | exact hb | exact hc | exact hd) Tryd.underlying33 rfl (by kernel_rfl) ?_) | (refine wpList_load_blk (by rfl) 39 _ rfl rfl (by first | exact h1 | exact h2 | exact h3 | exact h4 | exact h5 | exact h6 | exact h7 | exact h8 | exact h9 | exact k1 | exact hb | exact hc | exact hd) Tryd.underlying39 rfl (by kernel_rfl) ?_) | (refine wpList_cmp (op := .eql) (by rfl) 31 rfl rfl rfl (lf_guard) ((fun w => run_b (eql_lf w _ _) (dec_same _))) ?_) | (refine wpList_cmp (op := .neq) (by rfl) 31 rfl rfl rfl (lf_guard) ((fun w => run_b (neq_lf w _ _) (dec_nots _))) ?_) | (refine wpList_cmp (op := .neq) (by rfl) 33 rfl rfl rfl (ft_guard) ((fun w => run_b (neq_ft w _ _) (dec_nots _))) ?_) | (refine wpList_cmp (op := .eql) (by rfl) 33 rfl rfl rfl (ft_guard) ((fun w => run_b (eql_ft w _ _) (dec_same _))) ?_)) | (refine wpList_load_blk (by rfl) 25 _ rfl rfl hb Tryd.underlying25 rfl (by kernel_rfl) ?_))
  clear x0
  generalize w'.heap.size = g2 at *
  refine (hlk _ (hM.ext HE.out) (hT.ext HE.out)).mono ?_
  rintro e w' ⟨rfl, hE⟩
  (try replace hb := hb.ext hE); (try replace hc := hc.ext hE); (try replace hd := hd.ext hE); (try replace h1 := h1.ext hE); (try replace h2 := h2.ext hE); (try replace h3 := h3.ext hE); (try replace h4 := h4.ext hE); (try replace h5 := h5.ext hE); (try replace h6 := h6.ext hE); (try replace h7 := h7.ext hE); (try replace h8 := h8.ext hE); (try replace h9 := h9.ext hE); (try replace k1 := k1.ext hE); (try replace hM := hM.ext hE); (try replace hN := hN.ext hE); (try replace hO := hO.ext hE); (try replace HE := Lib.hid (HE.out.trans hE))
  clear hE hlk
  have q2 := Lib.hid h6.lt
  have zz1 : Blk ((w'.alloc (.cells #[.int .i64 0, .int .u64 0, .bool false, .bool false, .bool false, .bool false, .bool false, .bool false, .bool false, .bool false, .int .u64 0, .int .u64 0, .int .u64 0] 31)).alloc (.cells #[.bool false, .int .i64 0, .int .u64 0] 33)) w'.heap.size 31 #[.int .i64 0, .int .u64 0, .bool false, .bool false, .bool false, .bool false, .bool false, .bool false, .bool false, .bool false, .int .u64 0, .int .u64 0, .int .u64 0] := (Blk.new _ _ _).alloc _; have zz2 : Blk (((w'.alloc (.cells #[.int .i64 0, .int .u64 0, .bool false, .bool false, .bool false, .bool false, .bool false, .bool false, .bool false, .bool false, .int .u64 0, .int .u64 0, .int .u64 0] 31)).alloc (.cells #[.bool false, .int .i64 0, .int .u64 0] 33)).setRow w'.heap.size (lfC f)) (w'.heap.size + 1) 33 #[.bool false, .int .i64 0, .int .u64 0] := Blk.apart (blk_at (by simp)) (by omega) _; have hE := ((((Ext.refl w').alloc (.cells #[.int .i64 0, .int .u64 0, .bool false, .bool false, .bool false, .bool false, .bool false, .bool false, .bool false, .bool false, .int .u64 0, .int .u64 0, .int .u64 0] 31)).alloc (.cells #[.bool false, .int .i64 0, .int .u64 0] 33)).row (show w'.heap.size ≤ w'.heap.size from Nat.le_refl _) (lfC f)).row (show w'.heap.size ≤ w'.heap.size + 1 by omega) (ftC zFt); (try replace hb := hb.ext hE); (try replace hc := hc.ext hE); (try replace hd := hd.ext hE); (try replace h1 := h1.ext hE); (try replace h2 := h2.ext hE); (try replace h3 := h3.ext hE); (try replace h4 := h4.ext hE); (try replace h5 := h5.ext hE); (try replace h6 := h6.ext hE); (try replace h7 := h7.ext hE); (try replace h8 := h8.ext hE); (try replace h9 := h9.ext hE); (try replace k1 := k1.ext hE); (try replace hM := hM.ext hE); (try replace hN := hN.ext hE); (try replace hO := hO.ext hE); (try replace HE := Lib.hid (HE.out.trans hE)); clear hE; have h7 := (zz1.row (lfC f)).apart (show w'.heap.size ≠ w'.heap.size + 1 by omega) (ftC zFt); have h8 := zz2.row (ftC zFt)
  have x1 := (h8.cell 0).trans ftC_z0
  go_wp2_with (first | (first | (refine wpList_store_blk rfl 31 _ _ rfl rfl rfl zz1 (lf_info _) (by simp [lfC_size]) (lfC_one _) ?_) | ((refine wpList_store_blk rfl 33 _ _ rfl rfl rfl zz2 (ft_info _) (by simp [ftC_size]) (ftC_one _) ?_); clear zz1 zz2; generalize (((w'.alloc (.cells #[.int .i64 0, .int .u64 0, .bool false, .bool false, .bool false, .bool false, .bool false, .bool false, .bool false, .bool false, .int .u64 0, .int .u64 0, .int .u64 0] 31)).alloc (.cells #[.bool false, .int .i64 0, .int .u64 0] 33)).setRow w'.heap.size (lfC f)).setRow (w'.heap.size + 1) (ftC zFt) = X at *) | (refine wpList_load_blk (by rfl) 25 _ rfl rfl (by first | exact h1 | exact h2 | exact h3 | exact h4 | exact h5 | exact h6 | exact h7 | exact h8 | exact h9 | exact k1 | exact hb | exact hc | exact hd) Tryd.underlying25 rfl (by kernel_rfl) ?_) | (refine wpList_load_blk (by rfl) 31 _ rfl rfl (by first | exact h1 | exact h2 | exact h3 | exact h4 | exact h5 | exact h6 | exact h7 | exact h8 | exact h9 | exact k1 | exact hb | exact hc | exact hd) Tryd.underlying31 rfl (by kernel_rfl) ?_) | (refine wpList_load_blk (by rfl) 33 _ rfl rfl (by first | exact h1 | exact h2 | exact h3 | exact h4 | exact h5 | exact h6 | exact h7 | exact h8 | exact h9 | exact k1 | exact hb | exact hc | exact hd) Tryd.underlying33 rfl (by kernel_rfl) ?_) | (refine wpList_load_blk (by rfl) 39 _ rfl rfl (by first | exact h1 | exact h2 | exact h3 | exact h4 | exact h5 | exact h6 | exact h7 | exact h8 | exact h9 | exact k1 | exact hb | exact hc | exact hd) Tryd.underlying39 rfl (by kernel_rfl) ?_) | (refine wpList_cmp (op := .eql) (by rfl) 31 rfl rfl rfl (lf_guard) ((fun w => run_b (eql_lf w _ _) (dec_same _))) ?_) | (refine wpList_cmp (op := .neq) (by rfl) 31 rfl rfl rfl (lf_guard) ((fun w => run_b (neq_lf w _ _) (dec_nots _))) ?_) | (refine wpList_cmp (op := .neq) (by rfl) 33 rfl rfl rfl (ft_guard) ((fun w => run_b (neq_ft w _ _) (dec_nots _))) ?_) | (refine wpList_cmp (op := .eql) (by rfl) 33 rfl rfl rfl (ft_guard) ((fun w => run_b (eql_ft w _ _) (dec_same _))) ?_)) | (refine wpList_load_part (by rfl) 29 _ rfl rfl h7 (lfC_pt f) Tryd.underlying29 rfl (pt_info _) ?_))
  clear x1
  generalize w'.heap.size = g3 at *
  refine (rperm_c _ _).mono ?_
  rintro e w' ⟨rfl, hE⟩
  (try replace hb := hb.ext hE); (try replace hc := hc.ext hE); (try replace hd := hd.ext hE); (try replace h1 := h1.ext hE); (try replace h2 := h2.ext hE); (try replace h3 := h3.ext hE); (try replace h4 := h4.ext hE); (try replace h5 := h5.ext hE); (try replace h6 := h6.ext hE); (try replace h7 := h7.ext hE); (try replace h8 := h8.ext hE); (try replace h9 := h9.ext hE); (try replace k1 := k1.ext hE); (try replace hM := hM.ext hE); (try replace hN := hN.ext hE); (try replace hO := hO.ext hE); (try replace HE := Lib.hid (HE.out.trans hE))
  clear hE
  have q3 := Lib.hid h8.lt
  have zz1 : Blk (w'.alloc (.cells #[.bool false, .bool false, .bool false, .bool false] 51)) w'.heap.size 51 #[.bool false, .bool false, .bool false, .bool false] := Blk.new _ _ _; have hE := ((Ext.refl w').alloc (.cells #[.bool false, .bool false, .bool false, .bool false] 51)).row (Nat.le_refl w'.heap.size) (pmC (permP f.pt)); (try replace hb := hb.ext hE); (try replace hc := hc.ext hE); (try replace hd := hd.ext hE); (try replace h1 := h1.ext hE); (try replace h2 := h2.ext hE); (try replace h3 := h3.ext hE); (try replace h4 := h4.ext hE); (try replace h5 := h5.ext hE); (try replace h6 := h6.ext hE); (try replace h7 := h7.ext hE); (try replace h8 := h8.ext hE); (try replace h9 := h9.ext hE); (try replace k1 := k1.ext hE); (try replace hM := hM.ext hE); (try replace hN := hN.ext hE); (try replace hO := hO.ext hE); (try replace HE := Lib.hid (HE.out.trans hE)); clear hE; have k1 := zz1.row (pmC (permP f.pt))
  go_wp2_with (first | ((refine wpList_store_blk rfl 51 _ _ rfl rfl rfl zz1 (pm_info _) (by simp [pmC_size]) (pmC_one _) ?_); clear zz1; generalize (w'.alloc (.cells #[.bool false, .bool false, .bool false, .bool false] 51)).setRow w'.heap.size (pmC (permP f.pt)) = X at *) | (refine wpList_load_blk (by rfl) 25 _ rfl rfl (by first | exact h1 | exact h2 | exact h3 | exact h4 | exact h5 | exact h6 | exact h7 | exact h8 | exact h9 | exact k1 | exact hb | exact hc | exact hd) Tryd.underlying25 rfl (by kernel_rfl) ?_) | (refine wpList_load_blk (by rfl) 31 _ rfl rfl (by first | exact h1 | exact h2 | exact h3 | exact h4 | exact h5 | exact h6 | exact h7 | exact h8 | exact h9 | exact k1 | exact hb | exact hc | exact hd) Tryd.underlying31 rfl (by kernel_rfl) ?_) | (refine wpList_load_blk (by rfl) 33 _ rfl rfl (by first | exact h1 | exact h2 | exact h3 | exact h4 | exact h5 | exact h6 | exact h7 | exact h8 | exact h9 | exact k1 | exact hb | exact hc | exact hd) Tryd.underlying33 rfl (by kernel_rfl) ?_) | (refine wpList_load_blk (by rfl) 39 _ rfl rfl (by first | exact h1 | exact h2 | exact h3 | exact h4 | exact h5 | exact h6 | exact h7 | exact h8 | exact h9 | exact k1 | exact hb | exact hc | exact hd) Tryd.underlying39 rfl (by kernel_rfl) ?_) | (refine wpList_cmp (op := .eql) (by rfl) 31 rfl rfl rfl (lf_guard) ((fun w => run_b (eql_lf w _ _) (dec_same _))) ?_) | (refine wpList_cmp (op := .neq) (by rfl) 31 rfl rfl rfl (lf_guard) ((fun w => run_b (neq_lf w _ _) (dec_nots _))) ?_) | (refine wpList_cmp (op := .neq) (by rfl) 33 rfl rfl rfl (ft_guard) ((fun w => run_b (neq_ft w _ _) (dec_nots _))) ?_) | (refine wpList_cmp (op := .eql) (by rfl) 33 rfl rfl rfl (ft_guard) ((fun w => run_b (eql_ft w _ _) (dec_same _))) ?_))
  generalize w'.heap.size = g4 at *
  (try replace hb := Blk.drew hb); (try replace hc := Blk.drew hc); (try replace hd := Blk.drew hd); (try replace h1 := Blk.drew h1); (try replace h2 := Blk.drew h2); (try replace h3 := Blk.drew h3); (try replace h4 := Blk.drew h4); (try replace h5 := Blk.drew h5); (try replace h6 := Blk.drew h6); (try replace h7 := Blk.drew h7); (try replace h8 := Blk.drew h8); (try replace h9 := Blk.drew h9); (try replace k1 := Blk.drew k1); replace HE := Lib.hid HE.out.drew
  replace hN := hN.ext (Ext.refl _).drew
  replace hO := hO.ext (Ext.refl _).drew
  have n1 : ((!B1) == B1) = false := by cases B1 <;> rfl
  have n2 : ((!B2) == B2) = false := by cases B2 <;> rfl
  have n3 : decide ((!B1) = B1) = false := by cases B1 <;> rfl
  have n4 : decide ((!B2) = B2) = false := by cases B2 <;> rfl
  refine wp_region_seq [(0, false), (1, false), (2, false), (3, false), (4, true), (5, false), (6, false), (7, false), (8, false), (9, false), (10, false), (11, true), (12, false), (13, false)] Ext (by kernel_rfl) (by kernel_rfl) Ext.refl (fun _ _ _ => Ext.trans) ?_; simp only [List.map, nth_z, nth_s]
  simp only [Act.put, List.setIfInBounds_toArray, List.set_cons_zero, List.set_cons_succ]
  (repeat (first | (refine seq_skip (by rfl) ?_; intro K hK; simp only [Act.put, List.setIfInBounds_toArray, List.set_cons_zero, List.set_cons_succ]; refine hK _ ?_; clear hK K) | (refine seq_skipc (by rfl) ?_; intro K hK; simp only [Act.put, List.setIfInBounds_toArray, List.set_cons_zero, List.set_cons_succ]; refine hK _ ?_; clear hK K) | (refine seq_read (by rfl) (by rfl) ?_; intro K hK; go_big_quiet_op; first | go_big_quiet_on | (refine ⟨_, fun _ _ => rfl, ?_⟩; go_big_quiet_on))))
  refine seq_value (.bool (!B1)) (by rfl) (fun x hx => by have hq := ext_cell hx ((h3.cell 0).trans hb1); simp [go_sem, execOp, Act.eval, hq]) ?_; intro K hK; simp only [Act.put, List.setIfInBounds_toArray, List.set_cons_zero, List.set_cons_succ]; refine hK _ ?_; clear hK K
  refine seq_load rfl rfl (fun x hx => Blk.ext (k1) hx) rfl Tryd.underlying51 (pm_info _) (by rfl) ?_; intro K hK; simp only [Act.put, List.setIfInBounds_toArray, List.set_cons_zero, List.set_cons_succ]; refine hK _ ?_; clear hK K
  refine seq_load rfl rfl (fun x hx => Blk.ext (hc) hx) rfl Tryd.underlying39 (wy_info _) (by rfl) ?_; intro K hK; simp only [Act.put, List.setIfInBounds_toArray, List.set_cons_zero, List.set_cons_succ]; refine hK _ ?_; clear hK K
  refine seq_call (hal1 _ _) rfl Tryd.func23 (by kernel_rfl) (by kernel_rfl) (by rfl) (by rfl) ?_; intro K hK; rintro e w' ⟨rfl, hE⟩; refine ⟨_, rfl, hE, ?_⟩; simp only [Act.put, List.setIfInBounds_toArray, List.set_cons_zero, List.set_cons_succ]; refine hK _ _ ?_; clear hK K; (try replace hb := hb.ext hE); (try replace hc := hc.ext hE); (try replace hd := hd.ext hE); (try replace h1 := h1.ext hE); (try replace h2 := h2.ext hE); (try replace h3 := h3.ext hE); (try replace h4 := h4.ext hE); (try replace h5 := h5.ext hE); (try replace h6 := h6.ext hE); (try replace h7 := h7.ext hE); (try replace h8 := h8.ext hE); (try replace h9 := h9.ext hE); (try replace k1 := k1.ext hE); (try replace hM := hM.ext hE); (try replace hN := hN.ext hE); (try replace hO := hO.ext hE); (try replace HE := Lib.hid (HE.out.trans hE))
  clear hE
  rw [HB1.out]
  (repeat (first | (refine seq_skip (by rfl) ?_; intro K hK; simp only [Act.put, List.setIfInBounds_toArray, List.set_cons_zero, List.set_cons_succ]; refine hK _ ?_; clear hK K) | (refine seq_skipc (by rfl) ?_; intro K hK; simp only [Act.put, List.setIfInBounds_toArray, List.set_cons_zero, List.set_cons_succ]; refine hK _ ?_; clear hK K) | (refine seq_read (by rfl) (by rfl) ?_; intro K hK; go_big_quiet_op; first | go_big_quiet_on | (refine ⟨_, fun _ _ => rfl, ?_⟩; go_big_quiet_on))))
  refine seq_value (.bool (!B2)) (by rfl) (fun x hx => by have hq := ext_cell hx ((h6.cell 0).trans hb2); simp [go_sem, execOp, Act.eval, hq]) ?_; intro K hK; simp only [Act.put, List.setIfInBounds_toArray, List.set_cons_zero, List.set_cons_succ]; refine hK _ ?_; clear hK K
  refine seq_load rfl rfl (fun x hx => Blk.ext (k1) hx) rfl Tryd.underlying51 (pm_info _) (by rfl) ?_; intro K hK; simp only [Act.put, List.setIfInBounds_toArray, List.set_cons_zero, List.set_cons_succ]; refine hK _ ?_; clear hK K
  refine seq_load rfl rfl (fun x hx => Blk.ext (hd) hx) rfl Tryd.underlying39 (wy_info _) (by rfl) ?_; intro K hK; simp only [Act.put, List.setIfInBounds_toArray, List.set_cons_zero, List.set_cons_succ]; refine hK _ ?_; clear hK K
  refine seq_call (hal2 _ _) rfl Tryd.func23 (by kernel_rfl) (by kernel_rfl) (by rfl) (by rfl) ?_; intro K hK; rintro e w' ⟨rfl, hE⟩; refine ⟨_, rfl, hE, ?_⟩; simp only [Act.put, List.setIfInBounds_toArray, List.set_cons_zero, List.set_cons_succ]; refine hK _ _ ?_; clear hK K; (try replace hb := hb.ext hE); (try replace hc := hc.ext hE); (try replace hd := hd.ext hE); (try replace h1 := h1.ext hE); (try replace h2 := h2.ext hE); (try replace h3 := h3.ext hE); (try replace h4 := h4.ext hE); (try replace h5 := h5.ext hE); (try replace h6 := h6.ext hE); (try replace h7 := h7.ext hE); (try replace h8 := h8.ext hE); (try replace h9 := h9.ext hE); (try replace k1 := k1.ext hE); (try replace hM := hM.ext hE); (try replace hN := hN.ext hE); (try replace hO := hO.ext hE); (try replace HE := Lib.hid (HE.out.trans hE))
  clear hE
  rw [HB2.out]
  (repeat (first | (refine seq_skip (by rfl) ?_; intro K hK; simp only [Act.put, List.setIfInBounds_toArray, List.set_cons_zero, List.set_cons_succ]; refine hK _ ?_; clear hK K) | (refine seq_skipc (by rfl) ?_; intro K hK; simp only [Act.put, List.setIfInBounds_toArray, List.set_cons_zero, List.set_cons_succ]; refine hK _ ?_; clear hK K) | (refine seq_read (by rfl) (by rfl) ?_; intro K hK; go_big_quiet_op; first | go_big_quiet_on | (refine ⟨_, fun _ _ => rfl, ?_⟩; go_big_quiet_on))))
  refine seq_done ?_
  clear n1 n2 n3 n4
  cases B1
  · have x1 := (h3.cell 0).trans hb1
    rw [Bool.not_false] at x1
    go_wp2
    go_ret
    exact ⟨rfl, HE.out⟩
  cases B2
  · have x1 := (h3.cell 0).trans hb1
    have x2 := (h6.cell 0).trans hb2
    rw [Bool.not_true] at x1
    rw [Bool.not_false] at x2
    go_wp2
    go_ret
    exact ⟨rfl, HE.out⟩
  obtain ⟨N1, N2, hW⟩ := hw'.out HB1.out HB2.out
  have x1 := (h3.cell 0).trans hb1
  have x2 := (h6.cell 0).trans hb2
  rw [Bool.not_true] at x1 x2
  have x3 := (h5.cell 9).trans (lfC_9 G2)
  have hs9 : (lfC G1).setIfInBounds 9 (.bool G2.pt.d) = lfC G2 := by rw [lfC_set9, hW.g]
  have h2a := h2
  have r0 := q0.out
  have r1 := q1.out
  have r2 := q2.out
  have r3 := q3.out
  replace hN := hN.row' (o2.out (g1 + 1 + 1)) (show g1 ≤ g1 + 1 by omega) (show g1 + 1 < g1 + 1 + 1 by omega) (lfC G2)
  replace hO := hO.row' o3.out (show w.heap.size ≤ g1 + 1 by omega) (show g1 + 1 < g1 + 1 + 1 by omega) (lfC G2)
  have key := (h2).row (lfC G2); clear h2; (try replace hb := Blk.apart hb (show _ ≠ g1 + 1 by omega) (lfC G2)); (try replace hc := Blk.apart hc (show _ ≠ g1 + 1 by omega) (lfC G2)); (try replace hd := Blk.apart hd (show _ ≠ g1 + 1 by omega) (lfC G2)); (try replace h1 := Blk.apart h1 (show _ ≠ g1 + 1 by omega) (lfC G2)); (try replace h2 := Blk.apart h2 (show _ ≠ g1 + 1 by omega) (lfC G2)); (try replace h3 := Blk.apart h3 (show _ ≠ g1 + 1 by omega) (lfC G2)); (try replace h4 := Blk.apart h4 (show _ ≠ g1 + 1 by omega) (lfC G2)); (try replace h5 := Blk.apart h5 (show _ ≠ g1 + 1 by omega) (lfC G2)); (try replace h6 := Blk.apart h6 (show _ ≠ g1 + 1 by omega) (lfC G2)); (try replace h7 := Blk.apart h7 (show _ ≠ g1 + 1 by omega) (lfC G2)); (try replace h8 := Blk.apart h8 (show _ ≠ g1 + 1 by omega) (lfC G2)); (try replace h9 := Blk.apart h9 (show _ ≠ g1 + 1 by omega) (lfC G2)); (try replace k1 := Blk.apart k1 (show _ ≠ g1 + 1 by omega) (lfC G2)); have h2 := key; clear key; replace HE := Lib.hid (HE.out.row (show _ ≤ g1 + 1 by omega) (lfC G2))
  clear r0 r1 r2 r3 q0 q1 q2 q3 o2 o3
  have x4 := (h5.cell 1).trans (lfC_at' G2)
  go_wp2_with (first | (refine wpList_store_cell rfl 4 _ _ rfl rfl rfl h2a (by simp [lfC_size]) (hs9) (by kernel_rfl) rfl rfl ?_) | (refine wpList_load_blk (by rfl) 25 _ rfl rfl h1 Tryd.underlying25 rfl (by kernel_rfl) ?_))
  clear h2a x1 x2 x3 x4 hs9
  generalize World.setRow _ (g1 + 1) (lfC G2) = X2 at *
  refine (rword_x hN (by have := hW.lt; omega)).mono ?_
  rintro e w' ⟨rfl, hE⟩
  (try replace hb := hb.ext hE); (try replace hc := hc.ext hE); (try replace hd := hd.ext hE); (try replace h1 := h1.ext hE); (try replace h2 := h2.ext hE); (try replace h3 := h3.ext hE); (try replace h4 := h4.ext hE); (try replace h5 := h5.ext hE); (try replace h6 := h6.ext hE); (try replace h7 := h7.ext hE); (try replace h8 := h8.ext hE); (try replace h9 := h9.ext hE); (try replace k1 := k1.ext hE); (try replace hM := hM.ext hE); (try replace hN := hN.ext hE); (try replace hO := hO.ext hE); (try replace HE := Lib.hid (HE.out.trans hE))
  clear hE
  rw [hW.w1]
  have x4 := (h5.cell 1).trans (lfC_at' G2)
  go_wp2_with (first | (refine wpList_load_blk (by rfl) 25 _ rfl rfl h4 Tryd.underlying25 rfl (by kernel_rfl) ?_))
  clear x4
  refine (rword_x hO (by have := hW.lt; omega)).mono ?_
  rintro e w' ⟨rfl, hE⟩
  (try replace hb := hb.ext hE); (try replace hc := hc.ext hE); (try replace hd := hd.ext hE); (try replace h1 := h1.ext hE); (try replace h2 := h2.ext hE); (try replace h3 := h3.ext hE); (try replace h4 := h4.ext hE); (try replace h5 := h5.ext hE); (try replace h6 := h6.ext hE); (try replace h7 := h7.ext hE); (try replace h8 := h8.ext hE); (try replace h9 := h9.ext hE); (try replace k1 := k1.ext hE); (try replace hM := hM.ext hE); (try replace hN := hN.ext hE); (try replace hO := hO.ext hE); (try replace HE := Lib.hid (HE.out.trans hE))
  clear hE
  rw [hW.w2]
  obtain ⟨Z, ob1⟩ : ∃ Z : Int, bits .or .u64 (N1 : Int) 128 = Z := ⟨_, rfl⟩
  have ob2 : bits .or .u64 (N2 : Int) 128 = Z := by
    rw [← ob1]
    show bits .or .u64 (N2 : Int) ((128 : Nat) : Int) = bits .or .u64 (N1 : Int) ((128 : Nat) : Int)
    rw [or_u64 hW.n2 (by decide), or_u64 hW.n1 (by decide), hW.or]
  have hsame := hW.same
  clear hW hw' hal1 hal2
  go_wp2_with fail
  generalize he1 : ((k : Int) == 2) = d1 at hsame
  generalize he2 : ((j : Int) == 2) = d2 at hsame
  have he3 : decide ((k : Int) = 2) = d1 := he1
  have he4 : decide ((j : Int) = 2) = d2 := he2
  have h9 : (lfC f)[9]? = some (.bool f.pt.d) := lfC_9 f
  generalize f.pt.d = fd at hsame h9
  cases d1 <;> cases d2 <;> cases fd
  all_goals
    (try replace hb := Blk.drew hb); (try replace hc := Blk.drew hc); (try replace hd := Blk.drew hd); (try replace h1 := Blk.drew h1); (try replace h2 := Blk.drew h2); (try replace h3 := Blk.drew h3); (try replace h4 := Blk.drew h4); (try replace h5 := Blk.drew h5); (try replace h6 := Blk.drew h6); (try replace h7 := Blk.drew h7); (try replace h8 := Blk.drew h8); (try replace h9 := Blk.drew h9); (try replace k1 := Blk.drew k1); replace HE := Lib.hid HE.out.drew
    replace hN := hN.ext (Ext.refl _).drew
    replace hO := hO.ext (Ext.refl _).drew
    refine wp_region_seq [(0, false), (1, false), (2, false), (3, false), (4, false), (5, false), (6, false), (7, false), (8, false), (9, false), (10, false), (11, false), (12, false), (13, false), (14, false), (15, false), (16, false), (17, false), (18, false), (19, false), (20, true), (21, false), (22, false), (23, false), (24, false), (25, false), (26, false), (27, false), (28, false), (29, false), (30, false), (31, false), (32, false), (33, false), (34, false), (35, false), (36, false), (37, false), (38, false), (39, false), (40, false)] Ext (by kernel_rfl) (by kernel_rfl) Ext.refl (fun _ _ _ => Ext.trans) ?_; simp only [List.map, nth_z, nth_s]
    (try simp only [Act.put, List.setIfInBounds_toArray, List.set_cons_zero, List.set_cons_succ])
    refine seq_load rfl rfl (fun x hx => Blk.ext (h2) hx) rfl Tryd.underlying31 (lf_info _) (by rfl) ?_; intro K hK; simp only [Act.put, List.setIfInBounds_toArray, List.set_cons_zero, List.set_cons_succ]; refine hK _ ?_; clear hK K
    refine seq_load rfl rfl (fun x hx => Blk.ext (h5) hx) rfl Tryd.underlying31 (lf_info _) (by rfl) ?_; intro K hK; simp only [Act.put, List.setIfInBounds_toArray, List.set_cons_zero, List.set_cons_succ]; refine hK _ ?_; clear hK K
    refine seq_cmp rfl rfl rfl (lf_guard) ((fun w => run_b (eql_lf w _ _) (dec_same _))) (by rfl) ?_; intro K hK; simp only [Act.put, List.setIfInBounds_toArray, List.set_cons_zero, List.set_cons_succ]; refine hK _ ?_; clear hK K
    (repeat (first | (refine seq_skip (by rfl) ?_; intro K hK; simp only [Act.put, List.setIfInBounds_toArray, List.set_cons_zero, List.set_cons_succ]; refine hK _ ?_; clear hK K) | (refine seq_skipc (by rfl) ?_; intro K hK; simp only [Act.put, List.setIfInBounds_toArray, List.set_cons_zero, List.set_cons_succ]; refine hK _ ?_; clear hK K) | (refine seq_read (by rfl) (by rfl) ?_; intro K hK; go_big_quiet_op; first | go_big_quiet_on | (refine ⟨_, fun _ _ => rfl, ?_⟩; go_big_quiet_on))))
    refine seq_value (.int .i64 (k : Int)) (by rfl) (fun x hx => by have hq := ext_cell hx ((hc.cell 0).trans hy0); simp [go_sem, execOp, Act.eval, hq]) ?_; intro K hK; simp only [Act.put, List.setIfInBounds_toArray, List.set_cons_zero, List.set_cons_succ]; refine hK _ ?_; clear hK K
    (repeat (first | (refine seq_skip (by rfl) ?_; intro K hK; simp only [Act.put, List.setIfInBounds_toArray, List.set_cons_zero, List.set_cons_succ]; refine hK _ ?_; clear hK K) | (refine seq_skipc (by rfl) ?_; intro K hK; simp only [Act.put, List.setIfInBounds_toArray, List.set_cons_zero, List.set_cons_succ]; refine hK _ ?_; clear hK K) | (refine seq_read (by rfl) (by rfl) ?_; intro K hK; go_big_quiet_op; first | go_big_quiet_on | (refine ⟨_, fun _ _ => rfl, ?_⟩; go_big_quiet_on))))
    refine seq_value (.int .i64 (j : Int)) (by rfl) (fun x hx => by have hq := ext_cell hx ((hd.cell 0).trans hz0); simp [go_sem, execOp, Act.eval, hq]) ?_; intro K hK; simp only [Act.put, List.setIfInBounds_toArray, List.set_cons_zero, List.set_cons_succ]; refine hK _ ?_; clear hK K
    (repeat (first | (refine seq_skip (by rfl) ?_; intro K hK; simp only [Act.put, List.setIfInBounds_toArray, List.set_cons_zero, List.set_cons_succ]; refine hK _ ?_; clear hK K) | (refine seq_skipc (by rfl) ?_; intro K hK; simp only [Act.put, List.setIfInBounds_toArray, List.set_cons_zero, List.set_cons_succ]; refine hK _ ?_; clear hK K) | (refine seq_read (by rfl) (by rfl) ?_; intro K hK; go_big_quiet_op; first | go_big_quiet_on | (refine ⟨_, fun _ _ => rfl, ?_⟩; go_big_quiet_on))))
    refine seq_load rfl rfl (fun x hx => Blk.ext (h1) hx) rfl Tryd.underlying25 (by kernel_rfl) (by rfl) ?_; intro K hK; simp only [Act.put, List.setIfInBounds_toArray, List.set_cons_zero, List.set_cons_succ]; refine hK _ ?_; clear hK K
    refine seq_load rfl rfl (fun x hx => Blk.ext (h4) hx) rfl Tryd.underlying25 (by kernel_rfl) (by rfl) ?_; intro K hK; simp only [Act.put, List.setIfInBounds_toArray, List.set_cons_zero, List.set_cons_succ]; refine hK _ ?_; clear hK K
    refine seq_call (same_xx hN hO) rfl Tryd.func18 (by kernel_rfl) (by kernel_rfl) (by rfl) (by rfl) ?_; intro K hK; rintro e w' ⟨rfl, hE⟩; refine ⟨_, rfl, hE, ?_⟩; simp only [Act.put, List.setIfInBounds_toArray, List.set_cons_zero, List.set_cons_succ]; refine hK _ _ ?_; clear hK K; (try replace hb := hb.ext hE); (try replace hc := hc.ext hE); (try replace hd := hd.ext hE); (try replace h1 := h1.ext hE); (try replace h2 := h2.ext hE); (try replace h3 := h3.ext hE); (try replace h4 := h4.ext hE); (try replace h5 := h5.ext hE); (try replace h6 := h6.ext hE); (try replace h7 := h7.ext hE); (try replace h8 := h8.ext hE); (try replace h9 := h9.ext hE); (try replace k1 := k1.ext hE); (try replace hM := hM.ext hE); (try replace hN := hN.ext hE); (try replace hO := hO.ext hE); (try replace HE := Lib.hid (HE.out.trans hE))
    clear hE
    rw [hsame]
    (repeat (first | (refine seq_skip (by rfl) ?_; intro K hK; simp only [Act.put, List.setIfInBounds_toArray, List.set_cons_zero, List.set_cons_succ]; refine hK _ ?_; clear hK K) | (refine seq_skipc (by rfl) ?_; intro K hK; simp only [Act.put, List.setIfInBounds_toArray, List.set_cons_zero, List.set_cons_succ]; refine hK _ ?_; clear hK K) | (refine seq_read (by rfl) (by rfl) ?_; intro K hK; go_big_quiet_op; first | go_big_quiet_on | (refine ⟨_, fun _ _ => rfl, ?_⟩; go_big_quiet_on))))
    first
      | (refine seq_done ?_; go_wp2; go_ret; exact ⟨rfl, HE.out⟩)
      | (refine seq_load rfl rfl (fun x hx => Blk.ext (h2) hx) rfl Tryd.underlying31 (lf_info _) (by rfl) ?_; intro K hK; simp only [Act.put, List.setIfInBounds_toArray, List.set_cons_zero, List.set_cons_succ]; refine hK _ ?_; clear hK K; refine seq_load rfl rfl (fun x hx => Blk.ext (h5) hx) rfl Tryd.underlying31 (lf_info _) (by rfl) ?_; intro K hK; simp only [Act.put, List.setIfInBounds_toArray, List.set_cons_zero, List.set_cons_succ]; refine hK _ ?_; clear hK K; refine seq_cmp rfl rfl rfl (lf_guard) ((fun w => run_b (eql_lf w _ _) (dec_same _))) (by rfl) ?_; intro K hK; simp only [Act.put, List.setIfInBounds_toArray, List.set_cons_zero, List.set_cons_succ]; refine hK _ ?_; clear hK K; (repeat (first | (refine seq_skip (by rfl) ?_; intro K hK; simp only [Act.put, List.setIfInBounds_toArray, List.set_cons_zero, List.set_cons_succ]; refine hK _ ?_; clear hK K) | (refine seq_skipc (by rfl) ?_; intro K hK; simp only [Act.put, List.setIfInBounds_toArray, List.set_cons_zero, List.set_cons_succ]; refine hK _ ?_; clear hK K) | (refine seq_read (by rfl) (by rfl) ?_; intro K hK; go_big_quiet_op; first | go_big_quiet_on | (refine ⟨_, fun _ _ => rfl, ?_⟩; go_big_quiet_on)))); refine seq_value (.bool true) (by rfl) (fun x hx => by have hq := ext_cell hx ((h7.cell 9).trans h9); simp [go_sem, execOp, Act.eval, hq]) ?_; intro K hK; simp only [Act.put, List.setIfInBounds_toArray, List.set_cons_zero, List.set_cons_succ]; refine hK _ ?_; clear hK K; (repeat (first | (refine seq_skip (by rfl) ?_; intro K hK; simp only [Act.put, List.setIfInBounds_toArray, List.set_cons_zero, List.set_cons_succ]; refine hK _ ?_; clear hK K) | (refine seq_skipc (by rfl) ?_; intro K hK; simp only [Act.put, List.setIfInBounds_toArray, List.set_cons_zero, List.set_cons_succ]; refine hK _ ?_; clear hK K) | (refine seq_read (by rfl) (by rfl) ?_; intro K hK; go_big_quiet_op; first | go_big_quiet_on | (refine ⟨_, fun _ _ => rfl, ?_⟩; go_big_quiet_on)))); refine seq_done ?_; go_wp2; go_ret; exact ⟨rfl, HE.out⟩)
end Go.Proofs.YthplkhkclhpobaaDoor
