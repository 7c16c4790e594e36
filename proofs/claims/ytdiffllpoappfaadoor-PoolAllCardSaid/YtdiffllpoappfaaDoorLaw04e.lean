/- PoolAll. -/
import Derived.Test.YtdiffllpoappfaaDoorLaw04d
import Derived.Test.YtdiffllpoappfaaDoorMall
import Derived.Test.YtdiffllpoappfaaDoorOwn
import Derived.Lib.SmallJoins
namespace Go.Proofs.YtdiffllpoappfaaDoor
open Go.ChangeShapes Go.WideShapes Go.ChangeAt Go.RowKit
set_option linter.unusedVariables false
set_option linter.unusedSimpArgs false

/-- the frames that are taken, as values -/
def frV (B F k : Nat) : List Value := (List.range k).map fun j => .int .u64 ((B : Int) + ((tkL F j : Nat) : Int))
theorem frV_get {B F k j : Nat} (h : j < k) : (frV B F k)[j]? = some (.int .u64 ((B : Int) + ((tkL F j : Nat) : Int))) := by unfold frV; simp [h]
theorem frV_snoc (B F k : Nat) : frV B F k ++ [.int .u64 ((B : Int) + ((tkL F k : Nat) : Int))] = frV B F (k + 1) := by
  unfold frV; rw [List.range_succ, List.map_append]; rfl
attribute [irreducible] frV
theorem take_k (B M F k : Nat) (hB : B ≤ 268435456) (hF : F < 2 ^ 64) (hk : k < popN F 64) (w : World) (hT : Tab w) :
    Calls Tryd.prog 11 #[(.agg #[.int .u64 (B : Int), .int .i64 (M : Int), .int .u64 (tkF F k : Int)])] w fun e w' => e = .returned (.tuple #[(.agg #[.int .u64 (B : Int), .int .i64 (M : Int), .int .u64 (tkF F (k + 1) : Int)]), .int .u64 ((B : Int) + ((tkL F k : Nat) : Int)), .int .i64 0]) ∧ Ext w w' :=
  take_yesI B M (tkF F k) hB (tkF_lt hF k) (tkF_ne hF hk) w hT
theorem is_k (B M F k : Nat) (hB : B ≤ 268435456) (hM : M ≤ 64) (hF : F < 2 ^ 64) (hk : k < popN F 64) (w : World) :
    Calls Tryd.prog 17 #[(.agg #[.int .u64 (B : Int), .int .i64 (M : Int), .int .u64 (tkF F k : Int)]), .int .u64 ((B : Int) + ((tkL F k : Nat) : Int))] w fun e w' => e = .returned (.bool false) ∧ Ext w w' := by
  obtain ⟨h1, h2⟩ := tkL_bit hF hk
  have := is_c B M (tkF F k) (B + tkL F k) hB hM (tkF_lt hF k) (by omega) w
  rwa [isB_set (by rw [show B + tkL F k - B = tkL F k by omega]; exact h2), Int.natCast_add] at this
theorem free_k (B M F k : Nat) (hF : F < 2 ^ 64) (hk : k ≤ popN F 64) (w : World) :
    Calls Tryd.prog 15 #[(.agg #[.int .u64 (B : Int), .int .i64 (M : Int), .int .u64 (tkF F k : Int)])] w fun e w' => e = .returned (.int .i64 (((popN F 64 - k : Nat) : Nat) : Int)) ∧ Ext w w' := by
  have := free_c B (tkF F k) M (tkF_lt hF k) w
  rwa [tkF_pop hF k hk] at this
theorem give_k (B M F N t k : Nat) (hB : B ≤ 268435456) (hM : M ≤ 64) (hF : F < 2 ^ M) (hN : N = popN F 64) (hk : k < N) (w : World) :
    Calls Tryd.prog 13 #[(.agg #[.int .u64 (B : Int), .int .i64 (M : Int), .int .u64 (gvF F N t k : Int)]), .int .u64 ((B : Int) + ((tkL F ((k + t) % N) : Nat) : Int))] w fun e w' => e = .returned (.tuple #[(.agg #[.int .u64 (B : Int), .int .i64 (M : Int), .int .u64 (gvF F N t (k + 1) : Int)]), .int .i64 0]) ∧ Ext w w' := by
  have h64 := pow_le64 hM hF
  have hm : (k + t) % N < popN F 64 := by rw [← hN]; exact Nat.mod_lt _ (by omega)
  have hL : tkL F ((k + t) % N) < M := by
    apply Nat.lt_of_not_le; intro h
    have := tkL_F h64 hm
    rw [tb_top hF h] at this; cases this
  have hi : isB B M (gvF F N t k) (B + tkL F ((k + t) % N)) = true := isB_mk (by omega) (by omega) (by rw [show B + tkL F ((k + t) % N) - B = tkL F ((k + t) % N) by omega]; exact gvF_new h64 hN hk)
  have hg : freedN B M (gvF F N t k) (B + tkL F ((k + t) % N)) = gvF F N t (k + 1) := by
    rw [freed_in (by omega) (by omega), show B + tkL F ((k + t) % N) - B = tkL F ((k + t) % N) by omega]; rfl
  have := give_I B M (gvF F N t k) (tkL F ((k + t) % N)) hB hM (gvF_lt F N t k) (by omega) w
  rwa [hi, hg] at this

theorem Blk.other3 {w : World} {g : Nat} {t : TypeId} {cs : Array Value} (h : Blk w g t cs) {n : Nat} (hn : n ≠ g) (x y z : Value) : Blk (((w.setCell ⟨n, 0, none⟩ x).setCell ⟨n, 1, none⟩ y).setCell ⟨n, 2, none⟩ z) g t cs := ((h.other (a := ⟨n, 0, none⟩) hn x).other (a := ⟨n, 1, none⟩) hn y).other (a := ⟨n, 2, none⟩) hn z
theorem free_end (B : Nat) (M : Int) (F : Nat) (hF : F < 2 ^ 64) (w : World) : Calls Tryd.prog 15 #[(.agg #[.int .u64 (B : Int), .int .i64 (M : Int), .int .u64 (tkF F (popN F 64) : Int)])] w fun e w' => e = .returned (.int .i64 0) ∧ Ext w w' := by
  have h := free_c B (tkF F (popN F 64)) M (tkF_lt hF _) w
  rwa [show popN (tkF F (popN F 64)) 64 = 0 by rw [tkF_end hF]; exact pop_0] at h
/-- the slice's cells hold the frames -/
def RowU (w : World) (g N B F : Nat) : Prop := g < w.heap.size ∧ ∀ j, j < N → w.cell? ⟨g, j, none⟩ = some (.int .u64 ((B : Int) + ((tkL F j : Nat) : Int)))
theorem RowU.ext {w w' : World} {g N B F : Nat} (h : RowU w g N B F) (hE : Ext w w') : RowU w' g N B F := ⟨Nat.lt_of_lt_of_le h.1 hE.size, fun j hj => ext_cell hE (h.2 j hj)⟩
theorem RowU.set {w : World} {g N B F : Nat} (h : RowU w g N B F) {a : Addr} (hn : a.block ≠ g) (u : Value) : RowU (w.setCell a u) g N B F := by
  refine ⟨by rw [World.size_setCell]; exact h.1, fun j hj => ?_⟩
  rw [← h.2 j hj]
  exact World.cell?_of_block (heap_setCell_other _ _ _ _ (fun e => hn e.symm))
theorem RowU.set3 {w : World} {g N B F : Nat} (h : RowU w g N B F) {n : Nat} (hn : n ≠ g) (x y z : Value) : RowU (((w.setCell ⟨n, 0, none⟩ x).setCell ⟨n, 1, none⟩ y).setCell ⟨n, 2, none⟩ z) g N B F := ((h.set (a := ⟨n, 0, none⟩) hn x).set (a := ⟨n, 1, none⟩) hn y).set (a := ⟨n, 2, none⟩) hn z
theorem row_own {w : World} {base g N cap B F : Nat} (h : w.ownsRow base 22 1 (.slice (some ⟨g, 0, none⟩) N cap) N (frV B F N)) : RowU w g N B F ∧ base ≤ g :=
  ⟨⟨(h.lt g rfl).2, fun j hj => (h.cellAt j (by omega)).trans (frV_get hj)⟩, (h.lt g rfl).1⟩
theorem RowU.below {w w' : World} {g N B F b : Nat} (h : RowU w g N B F) (hE : Below b w w') (hg : g < b) {j : Nat} (hj : j < N) : w'.cell? ⟨g, j, none⟩ = some (.int .u64 ((B : Int) + ((tkL F j : Nat) : Int))) := (hE.cell (p := ⟨g, j, none⟩) hg).trans (h.2 j hj)
set_option maxRecDepth 100000 in
set_option maxHeartbeats 8000000 in
theorem PoolAll_w (B F t : Nat) (M : Int) (hB : B < 18446744073709551616) (hm0 : -9223372036854775808 ≤ M) (hm1 : M ≤ 9223372036854775807) (hF : F < 18446744073709551616) (ht : t < 256) (w : World) (hT : Tab w) :
    Calls Tryd.prog 7 #[(.agg #[.int .u64 (B : Int), .int .i64 (M : Int), .int .u64 (F : Int)]), .int .u8 (t : Int)] w fun e w' => e = .returned (.bool true) ∧ Ext w w' := by
  have HT := Lib.hid hT
  have HE := Lib.hid ((Ext.refl w).alloc (.cells #[.int .u64 (B : Int), .int .i64 (M : Int), .int .u64 (F : Int)] 24))
  clear hT
  have hrr := rright_c B F M hB hF hm0 hm1
  have hg := pool_guard
  have hb := Blk.new w 24 #[.int .u64 (B : Int), .int .i64 M, .int .u64 (F : Int)]
  cases hr : rightB B M F
  · rw [hr] at hrr
    go_enter Tryd.func7, Tryd.ntmps7
    go_wp2_with fail; refine (awake4_c _ (HT.out.ext HE.out)).mono ?_; rintro e w1 ⟨rfl, hE⟩; replace HE := Lib.hid (HE.out.trans hE)
    replace hb := hb.ext hE
    obtain ⟨b0, b1, b2⟩ := hb.c3
    clear hE
    go_wp2_with fail; refine (hrr _).mono ?_; rintro e w2 ⟨rfl, hE⟩; replace HE := Lib.hid (HE.out.trans hE)
    clear hE hb b0 b1 b2
    go_wp2_with fail; refine (awake4_c _ (HT.out.ext HE.out)).mono ?_; rintro e w3 ⟨rfl, hE⟩; replace HE := Lib.hid (HE.out.trans hE)
    clear hE
    go_wp2
    go_ret
    exact ⟨rfl, HE.out⟩
  rw [hr] at hrr
  obtain ⟨m, rfl, hm, hB2, hFm⟩ := right_is hr
  have hF64 : F < 2 ^ 64 := hF
  have hqE : ∀ w, (binOp .eql 24 (.agg #[.int .u64 (B : Int), .int .i64 (m : Int), .int .u64 (F : Int)]) (.agg #[.int .u64 (B : Int), .int .i64 (m : Int), .int .u64 (F : Int)])).run Tryd.prog w = .ok (.bool true) w := fun w => by rw [eqlP]; simp
  have hN64 := pop_le64 F
  have hfp := free_c B F m hF
  have hfe := free_end B m F hF64
  obtain ⟨N, hN⟩ : ∃ N, N = popN F 64 := ⟨_, rfl⟩
  rw [← hN] at hN64 hfp hfe
  have HN := Lib.hid hN
  clear hN
  go_enter Tryd.func7, Tryd.ntmps7
  go_wp2_with fail; refine (awake4_c _ (HT.out.ext HE.out)).mono ?_; rintro e w1 ⟨rfl, hE⟩; replace HE := Lib.hid (HE.out.trans hE)
  replace hb := hb.ext hE
  obtain ⟨b0, b1, b2⟩ := hb.c3
  clear hE
  go_wp2_with fail; refine (hrr _).mono ?_; rintro e w2 ⟨rfl, hE⟩; replace HE := Lib.hid (HE.out.trans hE)
  replace hb := hb.ext hE
  clear hE b0 b1 b2 hrr
  obtain ⟨b0, b1, b2⟩ := hb.c3
  go_wp2_with fail
  have hbl := hb.lt
  have hq := Blk.new w2 24 #[.int .u64 (B : Int), .int .i64 (m : Int), .int .u64 (F : Int)]
  replace hb := hb.alloc (.cells #[.int .u64 (B : Int), .int .i64 (m : Int), .int .u64 (F : Int)] 24)
  replace HE := Lib.hid (HE.out.alloc (.cells #[.int .u64 (B : Int), .int .i64 (m : Int), .int .u64 (F : Int)] 24))
  clear b0 b1 b2
  have hl0 : w.heap.size ≤ w2.heap.size := by omega
  have hWs := World.size_alloc w2 (.cells #[.int .u64 (B : Int), .int .i64 (m : Int), .int .u64 (F : Int)] 24)
  generalize w2.alloc (.cells #[.int .u64 (B : Int), .int .i64 (m : Int), .int .u64 (F : Int)] 24) = W at *
  go_loopw [6, 7] (fun l i wr => ∃ k : Nat, k ≤ N ∧ i = .int .i64 k ∧ wr.ownsRow W.heap.size 22 1 l k (frV B F k) ∧ Blk wr w.heap.size 24 #[.int .u64 (B : Int), .int .i64 (m : Int), .int .u64 (F : Int)] ∧ Blk wr w2.heap.size 24 #[.int .u64 (B : Int), .int .i64 (m : Int), .int .u64 ((tkF F k : Nat) : Int)] ∧ Ext w wr ∧ W.heap.size ≤ wr.heap.size) (fun _ i _ => (64 - intOf i).toNat)
  case atStart => exact ⟨0, by omega, rfl, by unfold frV; exact World.ownsRow_nil _ _ _ _, hb, hq, HE.out, Nat.le_refl _⟩
  case round =>
    clear hb hq HE
    obtain ⟨k, hk, rfl, hown, hb, hq, hE, hWr⟩ := hrel
    have HE := Lib.hid hE
    clear hE
    by_cases hlt : k < N
    · have hkp : k < popN F 64 := by rw [← HN.out]; exact hlt
      have hfk := free_k B m F k hF64 (by omega)
      have htk := take_k B m F k hB2 hF64 hkp
      have hik := is_k B m F k hB2 hm hF64 hkp
      have hrise : 0 < k → tkL F (k - 1) < tkL F k := fun h => by
        have := tkL_rise hF64 (show k - 1 + 1 < popN F 64 by omega)
        rwa [show k - 1 + 1 = k by omega] at this
      obtain ⟨r, hr'⟩ : ∃ r, popN F 64 - k = r := ⟨_, rfl⟩
      rw [hr'] at hfk
      have hr0 : 0 < r := by omega
      have hk64 : k < 64 := by omega
      have hd0 : decide ((0 : Int) < (r : Int)) = true := by simp; omega
      have Hlt := Lib.hid hlt
      clear hr' hlt hk hkp hfp hfe
      obtain ⟨q0, q1, q2⟩ := hq.c3
      go_wp2_with fail; refine (hfk _).mono ?_; rintro e w3 ⟨rfl, hE⟩; replace HE := Lib.hid (HE.out.trans hE)
      replace hb := hb.ext hE
      replace hq := hq.ext hE
      replace hown := own_ext hown hE
      have hW3 := Nat.le_trans hWr hE.size
      clear hE q0 q1 q2 hfk hWr
      obtain ⟨q0, q1, q2⟩ := hq.c3
      go_wp2_with fail; refine (htk _ (HT.out.ext HE.out)).mono ?_; rintro e w4 ⟨rfl, hE⟩; replace HE := Lib.hid (HE.out.trans hE)
      have hW4 := Nat.le_trans hW3 hE.size
      have hown4 := own_ext hown hE
      have hb4 := hb.ext hE
      have hq4 := hq.ext hE
      have hW5 : w2.heap.size < w4.heap.size := hq4.lt
      replace HE := Lib.hid HE.out
      clear hE q0 q1 q2 htk hW3 hb hq hown
      obtain ⟨q0, q1, q2⟩ := hq4.c3
      have hNo := own_below hown4 (g := w4.heap.size) (.inr (Nat.le_refl _))
      rcases Joins.ownsRow_forms hown4 with ⟨rfl, hk0⟩ | ⟨g, cap, rfl⟩
      · clear hk0
        replace HE := Lib.hid (HE.out.alloc (.cells #[.int .u64 (B : Int), .int .i64 (m : Int), .int .u64 (tkF F (k + 1) : Int)] 24))
        go_wp2_with fail; refine (hik _).mono ?_; rintro e w5 ⟨rfl, hE⟩; replace HE := Lib.hid (HE.out.trans hE)
        have hn5 := (Blk.new w4 24 #[.int .u64 (B : Int), .int .i64 (m : Int), .int .u64 ((tkF F (k + 1) : Nat) : Int)]).ext hE
        have hb5 := (hb4.alloc (.cells #[.int .u64 (B : Int), .int .i64 (m : Int), .int .u64 (tkF F (k + 1) : Int)] 24)).ext hE
        have hq5 := (hq4.alloc (.cells #[.int .u64 (B : Int), .int .i64 (m : Int), .int .u64 (tkF F (k + 1) : Int)] 24)).ext hE
        have hown5 := own_ext (hown4.alloc (.cells #[.int .u64 (B : Int), .int .i64 (m : Int), .int .u64 (tkF F (k + 1) : Int)] 24)) hE
        have hW6 := Nat.le_trans hW4 (Nat.le_trans (Nat.le_of_lt (Blk.lt (Blk.new w4 24 #[.int .u64 (B : Int), .int .i64 (m : Int), .int .u64 ((tkF F (k + 1) : Nat) : Int)]))) hE.size)
        have hqW : w2.heap.size < W.heap.size := by omega
        have hbW : w.heap.size < W.heap.size := by omega
        have hne : ¬ w2.heap.size = w.heap.size := by omega
        have hne2 : ¬ w.heap.size = w2.heap.size := by omega
        clear hE q0 q1 q2 hik hown4 hb4 hq4 hrise
        have Hn := Lib.hid hn5
        have Hb := Lib.hid hb5
        have Hq := Lib.hid hq5
        clear hn5 hb5 hq5
        go_wp2_with (at_builtin; refine wpList_append_run' _ rfl _ _ _ rfl _ _ rfl rfl _ (run_append_u64 _ W.heap.size _ _ _ (by assumption) _ (by omega) (by omega) _) ?_; rintro v6 w6 ⟨hown6, hB6, hK6⟩; obtain ⟨n0, n1, n2⟩ := (Hn.out.kept hK6 hNo).c3; obtain ⟨q0, q1, q2⟩ := (Hq.out.below hB6 hqW).c3; obtain ⟨f0, f1, f2⟩ := (Hq.out.below hB6 hqW).f3; have HB6 := Lib.hid hB6; have HO6 := Lib.hid hown6; clear hB6 hown6 hK6 hown5)
        exact ⟨⟨k + 1, Hlt.out, by go_num, by rw [← frV_snoc]; exact ownsRow_setCell_below (a := ⟨w2.heap.size, 2, none⟩) (ownsRow_setCell_below (a := ⟨w2.heap.size, 1, none⟩) (ownsRow_setCell_below (a := ⟨w2.heap.size, 0, none⟩) HO6.out hqW _) hqW _) hqW _,
          (((Hb.out.below HB6.out hbW).other (a := ⟨w2.heap.size, 0, none⟩) hne _).other (a := ⟨w2.heap.size, 1, none⟩) hne _).other (a := ⟨w2.heap.size, 2, none⟩) hne _, (Hq.out.below HB6.out hqW).set3 _ _ _,
          (show Ext w w6 from Below.trans HE.out (Below.mono HB6.out (Nat.le_of_lt hbW))).set3 hl0 _ _ _, by have := HB6.out.size; rw [World.size_setCell, World.size_setCell, World.size_setCell]; omega⟩, by simp [intOf]; omega⟩
      · by_cases hk0 : k = 0
        · have hdk : decide ((0 : Int) < (k : Int)) = false := by simp; omega
          have hdk2 : decide (0 < k) = false := by simp; omega
          clear hk0
          replace HE := Lib.hid (HE.out.alloc (.cells #[.int .u64 (B : Int), .int .i64 (m : Int), .int .u64 (tkF F (k + 1) : Int)] 24))
          go_wp2_with fail; refine (hik _).mono ?_; rintro e w5 ⟨rfl, hE⟩; replace HE := Lib.hid (HE.out.trans hE)
          have hn5 := (Blk.new w4 24 #[.int .u64 (B : Int), .int .i64 (m : Int), .int .u64 ((tkF F (k + 1) : Nat) : Int)]).ext hE
          have hb5 := (hb4.alloc (.cells #[.int .u64 (B : Int), .int .i64 (m : Int), .int .u64 (tkF F (k + 1) : Int)] 24)).ext hE
          have hq5 := (hq4.alloc (.cells #[.int .u64 (B : Int), .int .i64 (m : Int), .int .u64 (tkF F (k + 1) : Int)] 24)).ext hE
          have hown5 := own_ext (hown4.alloc (.cells #[.int .u64 (B : Int), .int .i64 (m : Int), .int .u64 (tkF F (k + 1) : Int)] 24)) hE
          have hW6 := Nat.le_trans hW4 (Nat.le_trans (Nat.le_of_lt (Blk.lt (Blk.new w4 24 #[.int .u64 (B : Int), .int .i64 (m : Int), .int .u64 ((tkF F (k + 1) : Nat) : Int)]))) hE.size)
          have hqW : w2.heap.size < W.heap.size := by omega
          have hbW : w.heap.size < W.heap.size := by omega
          have hne : ¬ w2.heap.size = w.heap.size := by omega
          have hne2 : ¬ w.heap.size = w2.heap.size := by omega
          clear hE q0 q1 q2 hik hown4 hb4 hq4 hrise
          have Hn := Lib.hid hn5
          have Hb := Lib.hid hb5
          have Hq := Lib.hid hq5
          clear hn5 hb5 hq5
          go_wp2_with (at_builtin; refine wpList_append_run' _ rfl _ _ _ rfl _ _ rfl rfl _ (run_append_u64 _ W.heap.size _ _ _ (by assumption) _ (by omega) (by omega) _) ?_; rintro v6 w6 ⟨hown6, hB6, hK6⟩; obtain ⟨n0, n1, n2⟩ := (Hn.out.kept hK6 hNo).c3; obtain ⟨q0, q1, q2⟩ := (Hq.out.below hB6 hqW).c3; obtain ⟨f0, f1, f2⟩ := (Hq.out.below hB6 hqW).f3; have HB6 := Lib.hid hB6; have HO6 := Lib.hid hown6; clear hB6 hown6 hK6 hown5)
          exact ⟨⟨k + 1, Hlt.out, by go_num, by rw [← frV_snoc]; exact ownsRow_setCell_below (a := ⟨w2.heap.size, 2, none⟩) (ownsRow_setCell_below (a := ⟨w2.heap.size, 1, none⟩) (ownsRow_setCell_below (a := ⟨w2.heap.size, 0, none⟩) HO6.out hqW _) hqW _) hqW _,
            (((Hb.out.below HB6.out hbW).other (a := ⟨w2.heap.size, 0, none⟩) hne _).other (a := ⟨w2.heap.size, 1, none⟩) hne _).other (a := ⟨w2.heap.size, 2, none⟩) hne _, (Hq.out.below HB6.out hqW).set3 _ _ _,
            (show Ext w w6 from Below.trans HE.out (Below.mono HB6.out (Nat.le_of_lt hbW))).set3 hl0 _ _ _, by have := HB6.out.size; rw [World.size_setCell, World.size_setCell, World.size_setCell]; omega⟩, by simp [intOf]; omega⟩
        · have hdk : decide ((0 : Int) < (k : Int)) = true := by simp; omega
          have hdk2 : 0 < k := by omega
          have hcell := hown4.cellAt (k - 1) (by omega)
          rw [frV_get (by omega)] at hcell
          have hrs := hrise hdk2
          have hi1 : (k : Int) - 1 = ((k - 1 : Nat) : Int) := by omega
          have hgl := (hown4.lt g rfl).2
          have hd5 : decide ((B : Int) + ((tkL F k : Nat) : Int) ≤ (B : Int) + ((tkL F (k - 1) : Nat) : Int)) = false := by simp; omega
          have hd6 : decide (tkL F k ≤ tkL F (k - 1)) = false := by simp; omega
          clear hk0 hrs
          replace HE := Lib.hid (HE.out.alloc (.cells #[.int .u64 (B : Int), .int .i64 (m : Int), .int .u64 (tkF F (k + 1) : Int)] 24))
          go_wp2_with fail; refine (hik _).mono ?_; rintro e w5 ⟨rfl, hE⟩; replace HE := Lib.hid (HE.out.trans hE)
          have hn5 := (Blk.new w4 24 #[.int .u64 (B : Int), .int .i64 (m : Int), .int .u64 ((tkF F (k + 1) : Nat) : Int)]).ext hE
          have hb5 := (hb4.alloc (.cells #[.int .u64 (B : Int), .int .i64 (m : Int), .int .u64 (tkF F (k + 1) : Int)] 24)).ext hE
          have hq5 := (hq4.alloc (.cells #[.int .u64 (B : Int), .int .i64 (m : Int), .int .u64 (tkF F (k + 1) : Int)] 24)).ext hE
          have hown5 := own_ext (hown4.alloc (.cells #[.int .u64 (B : Int), .int .i64 (m : Int), .int .u64 (tkF F (k + 1) : Int)] 24)) hE
          have hW6 := Nat.le_trans hW4 (Nat.le_trans (Nat.le_of_lt (Blk.lt (Blk.new w4 24 #[.int .u64 (B : Int), .int .i64 (m : Int), .int .u64 ((tkF F (k + 1) : Nat) : Int)]))) hE.size)
          have hqW : w2.heap.size < W.heap.size := by omega
          have hbW : w.heap.size < W.heap.size := by omega
          have hne : ¬ w2.heap.size = w.heap.size := by omega
          have hne2 : ¬ w.heap.size = w2.heap.size := by omega
          clear hE q0 q1 q2 hik hown4 hb4 hq4 hrise
          have Hn := Lib.hid hn5
          have Hb := Lib.hid hb5
          have Hq := Lib.hid hq5
          clear hn5 hb5 hq5
          go_wp2_with (at_builtin; refine wpList_append_run' _ rfl _ _ _ rfl _ _ rfl rfl _ (run_append_u64 _ W.heap.size _ _ _ (by assumption) _ (by omega) (by omega) _) ?_; rintro v6 w6 ⟨hown6, hB6, hK6⟩; obtain ⟨n0, n1, n2⟩ := (Hn.out.kept hK6 hNo).c3; obtain ⟨q0, q1, q2⟩ := (Hq.out.below hB6 hqW).c3; obtain ⟨f0, f1, f2⟩ := (Hq.out.below hB6 hqW).f3; have HB6 := Lib.hid hB6; have HO6 := Lib.hid hown6; clear hB6 hown6 hK6 hown5)
          exact ⟨⟨k + 1, Hlt.out, by go_num, by rw [← frV_snoc]; exact ownsRow_setCell_below (a := ⟨w2.heap.size, 2, none⟩) (ownsRow_setCell_below (a := ⟨w2.heap.size, 1, none⟩) (ownsRow_setCell_below (a := ⟨w2.heap.size, 0, none⟩) HO6.out hqW _) hqW _) hqW _,
            (((Hb.out.below HB6.out hbW).other (a := ⟨w2.heap.size, 0, none⟩) hne _).other (a := ⟨w2.heap.size, 1, none⟩) hne _).other (a := ⟨w2.heap.size, 2, none⟩) hne _, (Hq.out.below HB6.out hqW).set3 _ _ _,
            (show Ext w w6 from Below.trans HE.out (Below.mono HB6.out (Nat.le_of_lt hbW))).set3 hl0 _ _ _, by have := HB6.out.size; rw [World.size_setCell, World.size_setCell, World.size_setCell]; omega⟩, by simp [intOf]; omega⟩
    · obtain rfl : k = N := by omega
      have hgv := fun j => give_k B m F k t j
      have hE0 := tkF_end hF64
      by_cases h64 : k < 64
      · obtain ⟨q0, q1, q2⟩ := hq.c3
        go_wp2_with fail; refine (hfe _).mono ?_; rintro e w3 ⟨rfl, hE⟩; replace HE := Lib.hid (HE.out.trans hE)
        replace hb := hb.ext hE
        replace hq := hq.ext hE
        replace hown := own_ext hown hE
        have hWr3 := Nat.le_trans hWr hE.size
        clear hE q0 q1 q2 hWr
        obtain ⟨b0, b1, b2⟩ := hb.c3
        rcases Joins.ownsRow_forms hown with ⟨rfl, hk0⟩ | ⟨g, cap, rfl⟩
        · have hz : ((0 : Int) != (k : Int)) = false := by simp; omega
          have Hk0 := Lib.hid hk0
          clear hk0 hown
          go_wp2_with fail; refine (hfp _).mono ?_; rintro e w4 ⟨rfl, hE⟩; replace HE := Lib.hid (HE.out.trans hE)
          replace hb := hb.ext hE
          replace hq := hq.ext hE
          clear hE b0 b1 b2 hfp
          obtain ⟨q0, q1, q2⟩ := hq.c3
          go_wp2_with fail; refine (hfe _).mono ?_; rintro e w5 ⟨rfl, hE⟩; replace HE := Lib.hid (HE.out.trans hE)
          replace hb := hb.ext hE
          replace hq := hq.ext hE
          clear hE q0 q1 q2 hfe hz
          have hkF : tkF F k = F := by rw [Hk0.out]; rfl
          rw [hkF] at hq
          clear hkF
          obtain ⟨q0, q1, q2⟩ := hq.c3
          obtain ⟨b0, b1, b2⟩ := hb.c3
          clear hb hq
          go_wp2_with fail
          go_loop [11] (fun i => i = .int .i64 0) (fun _ => 0)
          case atStart => exact rfl
          case round =>
            obtain rfl := hrel
            go_wp2
            go_ret
            exact ⟨rfl, HE.out⟩
        · obtain ⟨hrow, hWg⟩ := row_own hown
          clear hown
          go_wp2_with fail; refine (hfp _).mono ?_; rintro e w4 ⟨rfl, hE⟩; replace HE := Lib.hid (HE.out.trans hE)
          replace hb := hb.ext hE
          replace hq := hq.ext hE
          replace hrow := hrow.ext hE
          clear hE b0 b1 b2 hfp
          obtain ⟨q0, q1, q2⟩ := hq.c3
          go_wp2_with fail; refine (hfe _).mono ?_; rintro e w5 ⟨rfl, hE⟩; replace HE := Lib.hid (HE.out.trans hE)
          replace hb := hb.ext hE
          replace hq := hq.ext hE
          replace hrow := hrow.ext hE
          clear hE q0 q1 q2 hfe
          have hq0 : Blk w5 w2.heap.size 24 #[.int .u64 (B : Int), .int .i64 (m : Int), .int .u64 ((gvF F k t 0 : Nat) : Int)] := by
            have : tkF F k = gvF F k t 0 := by rw [HN.out, hE0]; rfl
            rw [this] at hq; exact hq
          clear hq
          have hgw : w2.heap.size < g := by omega
          go_wp2_with fail
          go_loopw [11] (fun i wr => ∃ j : Nat, j ≤ k ∧ i = .int .i64 j ∧ Blk wr w.heap.size 24 #[.int .u64 (B : Int), .int .i64 (m : Int), .int .u64 (F : Int)] ∧ Blk wr w2.heap.size 24 #[.int .u64 (B : Int), .int .i64 (m : Int), .int .u64 ((gvF F k t j : Nat) : Int)] ∧ RowU wr g k B F ∧ Ext w wr) (fun i _ => (k - intOf i).toNat)
          case atStart => exact ⟨0, by omega, rfl, hb, hq0, hrow, HE.out⟩
          case round =>
            clear hb hq0 hrow HE
            obtain ⟨j, hj, rfl, hb, hq, hrow, hE⟩ := hrel
            have HE := Lib.hid hE
            clear hE
            by_cases hjk : j < k
            · have hgj := hgv j hB2 hm hFm HN.out hjk
              have hmod : (j + t) % k < k := Nat.mod_lt _ (by omega)
              have hjk' := Lib.hid hjk
              obtain ⟨I, hI⟩ : ∃ I, (j + t) % k = I := ⟨_, rfl⟩
              rw [hI] at hgj hmod
              have hs1 : IntKind.i64.wrap ((j : Int) + (t : Int)) = (j : Int) + (t : Int) := by rw [IntKind.wrap_i64]; omega
              have hs2 : ((j : Int) + (t : Int)).tmod (k : Int) = (I : Int) := by
                rw [← hI, ← Int.natCast_add, Int.ofNat_tmod]
              clear hI hjk hgv
              go_wp2
              refine wp_region_fork [(0, false), (1, false), (2, false), (3, false), (4, false), (5, false), (6, false), (7, false), (8, false), (9, false), (10, false)] 11 [(12, false), (13, false), (14, false), (15, true), (16, true), (17, false)] 15 [(11, true), (12, false), (13, false), (14, false), (16, true), (17, false)] (Below (wr.heap.size)) (by kernel_rfl) (by kernel_rfl) (Below.refl _) (fun _ _ _ => Below.trans) ?_; simp only [List.map, nth_z, nth_s]
              have hql := hq.lt
              have hgl := hrow.1
              replace hb := hb.drew
              replace hq := hq.drew
              replace hrow : RowU wr.drew g k B F := hrow
              replace HE := Lib.hid HE.out.drew
              have hwd : wr.drew.heap.size = wr.heap.size := rfl
              generalize wr.drew = w6 at *
              refine seq_load rfl rfl (fun x hx => Blk.below (hq) hx hql) rfl Tryd.underlying24 (by kernel_rfl) (by rfl) ?_; intro K hK; simp only [Act.put, List.setIfInBounds_toArray, List.set_cons_zero, List.set_cons_succ]; refine hK _ ?_; clear hK K
              (repeat (first | (refine seq_skip (by rfl) ?_; intro K hK; simp only [Act.put, List.setIfInBounds_toArray, List.set_cons_zero, List.set_cons_succ]; refine hK _ ?_; clear hK K) | (refine seq_skipc (by rfl) ?_; intro K hK; simp only [Act.put, List.setIfInBounds_toArray, List.set_cons_zero, List.set_cons_succ]; refine hK _ ?_; clear hK K) | (refine seq_read (by rfl) (by rfl) ?_; intro K hK; go_big_quiet_op; first | go_big_quiet_on | (refine ⟨_, fun _ _ => rfl, ?_⟩; go_big_quiet_on))))
              refine seq_value (.int .u64 ((B : Int) + ((tkL F I : Nat) : Int))) (by rfl) (fun x hx => by have hq := (Below.cell hx (p := ⟨g, I, none⟩) hgl).trans (hrow.2 I hmod); simp [go_sem, execOp, Act.eval, hq]) ?_; intro K hK; simp only [Act.put, List.setIfInBounds_toArray, List.set_cons_zero, List.set_cons_succ]; refine hK _ ?_; clear hK K
              refine seq_done ?_
              have hbl6 := hb.lt
              refine ⟨?_, ?_⟩
              · refine seq_call (hgj _) rfl Tryd.func13 (by kernel_rfl) (by kernel_rfl) (by rfl) (by rfl) ?_; intro K hK; rintro e w' ⟨rfl, hE⟩; refine ⟨_, rfl, (Below.mono hE (by omega)), ?_⟩; simp only [Act.put, List.setIfInBounds_toArray, List.set_cons_zero, List.set_cons_succ]; refine hK _ _ ?_; clear hK K
                have hs7 : w6.heap.size ≤ w'.heap.size := hE.size
                replace hb := (hb.ext hE).alloc (.cells #[.int .u64 0, .int .i64 0, .int .u64 0] 24)
                replace hq := (hq.ext hE).alloc (.cells #[.int .u64 0, .int .i64 0, .int .u64 0] 24)
                replace hrow := (hrow.ext hE).ext ((Ext.refl w').alloc (.cells #[.int .u64 0, .int .i64 0, .int .u64 0] 24))
                replace HE := Lib.hid ((HE.out.trans hE).alloc (.cells #[.int .u64 0, .int .i64 0, .int .u64 0] 24))
                have hn := Blk.new w' 24 #[.int .u64 0, .int .i64 0, .int .u64 0]
                (repeat (first | (refine seq_skip (by rfl) ?_; intro K hK; simp only [Act.put, List.setIfInBounds_toArray, List.set_cons_zero, List.set_cons_succ]; refine hK _ ?_; clear hK K) | (refine seq_skipc (by rfl) ?_; intro K hK; simp only [Act.put, List.setIfInBounds_toArray, List.set_cons_zero, List.set_cons_succ]; refine hK _ ?_; clear hK K) | (refine seq_read (by rfl) (by rfl) ?_; intro K hK; go_big_quiet_op; first | go_big_quiet_on | (refine ⟨_, fun _ _ => rfl, ?_⟩; go_big_quiet_on))))
                refine seq_run (.pointer (some ⟨w'.heap.size, 0, none⟩)) (w'.alloc (.cells #[.int .u64 0, .int .i64 0, .int .u64 0] 24)) (by rfl) ?_ (Below.alloc (Below.refl _ _) (by omega) _) ?_; (simp [go_sem, execOp, Act.eval]); intro K hK; simp only [Act.put, List.setIfInBounds_toArray, List.set_cons_zero, List.set_cons_succ]; refine hK _ _ ?_; clear hK K
                generalize w'.alloc (.cells #[.int .u64 0, .int .i64 0, .int .u64 0] 24) = w8 at *
                have hnb : wr.heap.size ≤ w'.heap.size := by omega
                clear hE
                obtain ⟨z0, z1, z2⟩ := hn.c3; obtain ⟨y0, y1, y2⟩ := hn.f3; have hnl := hn.lt; refine seq_store ((((w8).setCell ⟨w'.heap.size, 0, none⟩ (.int .u64 (B : Int))).setCell ⟨w'.heap.size, 1, none⟩ (.int .i64 (m : Int))).setCell ⟨w'.heap.size, 2, none⟩ (.int .u64 ((gvF F k t (j + 1) : Nat) : Int))) (by rfl) ?_ (((Below.setCell (p := ⟨w'.heap.size, 0, none⟩) (Below.refl _ _) (by show wr.heap.size ≤ w'.heap.size; omega) _).setCell (p := ⟨w'.heap.size, 1, none⟩) (by show wr.heap.size ≤ w'.heap.size; omega) _).setCell (p := ⟨w'.heap.size, 2, none⟩) (by show wr.heap.size ≤ w'.heap.size; omega) _) ?_; (simp [go_sem, execOp, Act.eval, z0, z1, z2, y0, y1, y2]); intro K hK; simp only [Act.put, List.setIfInBounds_toArray, List.set_cons_zero, List.set_cons_succ]; refine hK _ _ ?_; clear hK K; (repeat (first | (refine seq_skip (by rfl) ?_; intro K hK; simp only [Act.put, List.setIfInBounds_toArray, List.set_cons_zero, List.set_cons_succ]; refine hK _ ?_; clear hK K) | (refine seq_skipc (by rfl) ?_; intro K hK; simp only [Act.put, List.setIfInBounds_toArray, List.set_cons_zero, List.set_cons_succ]; refine hK _ ?_; clear hK K) | (refine seq_read (by rfl) (by rfl) ?_; intro K hK; go_big_quiet_op; first | go_big_quiet_on | (refine ⟨_, fun _ _ => rfl, ?_⟩; go_big_quiet_on)))); refine seq_done ?_; have e1 : w'.heap.size ≠ w.heap.size := (by omega); have e2 : w'.heap.size ≠ w2.heap.size := (by omega); have e3 : w'.heap.size ≠ g := (by omega); replace hb := hb.other3 e1 (.int .u64 (B : Int)) (.int .i64 (m : Int)) (.int .u64 ((gvF F k t (j + 1) : Nat) : Int)); replace hq := hq.other3 e2 (.int .u64 (B : Int)) (.int .i64 (m : Int)) (.int .u64 ((gvF F k t (j + 1) : Nat) : Int)); replace hrow := hrow.set3 e3 (.int .u64 (B : Int)) (.int .i64 (m : Int)) (.int .u64 ((gvF F k t (j + 1) : Nat) : Int)); replace hn := hn.set3 (.int .u64 (B : Int)) (.int .i64 (m : Int)) (.int .u64 ((gvF F k t (j + 1) : Nat) : Int)); replace HE := Lib.hid (HE.out.set3 (show w.heap.size ≤ w'.heap.size by omega) (.int .u64 (B : Int)) (.int .i64 (m : Int)) (.int .u64 ((gvF F k t (j + 1) : Nat) : Int))); generalize ((((w8).setCell ⟨w'.heap.size, 0, none⟩ (.int .u64 (B : Int))).setCell ⟨w'.heap.size, 1, none⟩ (.int .i64 (m : Int))).setCell ⟨w'.heap.size, 2, none⟩ (.int .u64 ((gvF F k t (j + 1) : Nat) : Int))) = w9 at *; clear z0 z1 z2 y0 y1 y2; obtain ⟨z0, z1, z2⟩ := hn.c3; obtain ⟨q0, q1, q2⟩ := hq.c3; obtain ⟨f0, f1, f2⟩ := hq.f3; have Hb := Lib.hid hb; have Hq := Lib.hid hq; have Hr := Lib.hid hrow; have x1 : w2.heap.size ≠ w.heap.size := (by omega); have x2 : w2.heap.size ≠ g := (by omega); clear hb hq hrow hn hs1 hs2 hwd; (try clear hs8); go_wp2; exact ⟨⟨j + 1, hjk'.out, by go_num, Hb.out.other3 x1 _ _ _, Hq.out.set3 _ _ _, Hr.out.set3 x2 _ _ _, HE.out.set3 hl0 _ _ _⟩, by have := hjk'.out; simp [intOf]; omega⟩
              · refine seq_run (.pointer (some ⟨w6.heap.size, 0, none⟩)) (w6.alloc (.cells #[.int .u64 0, .int .i64 0, .int .u64 0] 24)) (by rfl) ?_ (Below.alloc (Below.refl _ _) (by omega) _) ?_; (simp [go_sem, execOp, Act.eval]); intro K hK; simp only [Act.put, List.setIfInBounds_toArray, List.set_cons_zero, List.set_cons_succ]; refine hK _ _ ?_; clear hK K
                replace hb := hb.alloc (.cells #[.int .u64 0, .int .i64 0, .int .u64 0] 24)
                replace hq := hq.alloc (.cells #[.int .u64 0, .int .i64 0, .int .u64 0] 24)
                replace hrow := hrow.ext ((Ext.refl w6).alloc (.cells #[.int .u64 0, .int .i64 0, .int .u64 0] 24))
                replace HE := Lib.hid (HE.out.alloc (.cells #[.int .u64 0, .int .i64 0, .int .u64 0] 24))
                have hn := Blk.new w6 24 #[.int .u64 0, .int .i64 0, .int .u64 0]
                have hs8 := World.size_alloc w6 (.cells #[.int .u64 0, .int .i64 0, .int .u64 0] 24)
                generalize w6.alloc (.cells #[.int .u64 0, .int .i64 0, .int .u64 0] 24) = w7 at *
                refine seq_call (hgj _) rfl Tryd.func13 (by kernel_rfl) (by kernel_rfl) (by rfl) (by rfl) ?_; intro K hK; rintro e w' ⟨rfl, hE⟩; refine ⟨_, rfl, (Below.mono hE (by omega)), ?_⟩; simp only [Act.put, List.setIfInBounds_toArray, List.set_cons_zero, List.set_cons_succ]; refine hK _ _ ?_; clear hK K
                replace hb := hb.ext hE
                replace hq := hq.ext hE
                replace hrow := hrow.ext hE
                replace HE := Lib.hid (HE.out.trans hE)
                replace hn := hn.ext hE
                have hnb : wr.heap.size ≤ w6.heap.size := by omega
                clear hE
                (repeat (first | (refine seq_skip (by rfl) ?_; intro K hK; simp only [Act.put, List.setIfInBounds_toArray, List.set_cons_zero, List.set_cons_succ]; refine hK _ ?_; clear hK K) | (refine seq_skipc (by rfl) ?_; intro K hK; simp only [Act.put, List.setIfInBounds_toArray, List.set_cons_zero, List.set_cons_succ]; refine hK _ ?_; clear hK K) | (refine seq_read (by rfl) (by rfl) ?_; intro K hK; go_big_quiet_op; first | go_big_quiet_on | (refine ⟨_, fun _ _ => rfl, ?_⟩; go_big_quiet_on))))
                obtain ⟨z0, z1, z2⟩ := hn.c3; obtain ⟨y0, y1, y2⟩ := hn.f3; have hnl := hn.lt; refine seq_store ((((w').setCell ⟨w6.heap.size, 0, none⟩ (.int .u64 (B : Int))).setCell ⟨w6.heap.size, 1, none⟩ (.int .i64 (m : Int))).setCell ⟨w6.heap.size, 2, none⟩ (.int .u64 ((gvF F k t (j + 1) : Nat) : Int))) (by rfl) ?_ (((Below.setCell (p := ⟨w6.heap.size, 0, none⟩) (Below.refl _ _) (by show wr.heap.size ≤ w6.heap.size; omega) _).setCell (p := ⟨w6.heap.size, 1, none⟩) (by show wr.heap.size ≤ w6.heap.size; omega) _).setCell (p := ⟨w6.heap.size, 2, none⟩) (by show wr.heap.size ≤ w6.heap.size; omega) _) ?_; (simp [go_sem, execOp, Act.eval, z0, z1, z2, y0, y1, y2]); intro K hK; simp only [Act.put, List.setIfInBounds_toArray, List.set_cons_zero, List.set_cons_succ]; refine hK _ _ ?_; clear hK K; (repeat (first | (refine seq_skip (by rfl) ?_; intro K hK; simp only [Act.put, List.setIfInBounds_toArray, List.set_cons_zero, List.set_cons_succ]; refine hK _ ?_; clear hK K) | (refine seq_skipc (by rfl) ?_; intro K hK; simp only [Act.put, List.setIfInBounds_toArray, List.set_cons_zero, List.set_cons_succ]; refine hK _ ?_; clear hK K) | (refine seq_read (by rfl) (by rfl) ?_; intro K hK; go_big_quiet_op; first | go_big_quiet_on | (refine ⟨_, fun _ _ => rfl, ?_⟩; go_big_quiet_on)))); refine seq_done ?_; have e1 : w6.heap.size ≠ w.heap.size := (by omega); have e2 : w6.heap.size ≠ w2.heap.size := (by omega); have e3 : w6.heap.size ≠ g := (by omega); replace hb := hb.other3 e1 (.int .u64 (B : Int)) (.int .i64 (m : Int)) (.int .u64 ((gvF F k t (j + 1) : Nat) : Int)); replace hq := hq.other3 e2 (.int .u64 (B : Int)) (.int .i64 (m : Int)) (.int .u64 ((gvF F k t (j + 1) : Nat) : Int)); replace hrow := hrow.set3 e3 (.int .u64 (B : Int)) (.int .i64 (m : Int)) (.int .u64 ((gvF F k t (j + 1) : Nat) : Int)); replace hn := hn.set3 (.int .u64 (B : Int)) (.int .i64 (m : Int)) (.int .u64 ((gvF F k t (j + 1) : Nat) : Int)); replace HE := Lib.hid (HE.out.set3 (show w.heap.size ≤ w6.heap.size by omega) (.int .u64 (B : Int)) (.int .i64 (m : Int)) (.int .u64 ((gvF F k t (j + 1) : Nat) : Int))); generalize ((((w').setCell ⟨w6.heap.size, 0, none⟩ (.int .u64 (B : Int))).setCell ⟨w6.heap.size, 1, none⟩ (.int .i64 (m : Int))).setCell ⟨w6.heap.size, 2, none⟩ (.int .u64 ((gvF F k t (j + 1) : Nat) : Int))) = w9 at *; clear z0 z1 z2 y0 y1 y2; obtain ⟨z0, z1, z2⟩ := hn.c3; obtain ⟨q0, q1, q2⟩ := hq.c3; obtain ⟨f0, f1, f2⟩ := hq.f3; have Hb := Lib.hid hb; have Hq := Lib.hid hq; have Hr := Lib.hid hrow; have x1 : w2.heap.size ≠ w.heap.size := (by omega); have x2 : w2.heap.size ≠ g := (by omega); clear hb hq hrow hn hs1 hs2 hwd; (try clear hs8); go_wp2; exact ⟨⟨j + 1, hjk'.out, by go_num, Hb.out.other3 x1 _ _ _, Hq.out.set3 _ _ _, Hr.out.set3 x2 _ _ _, HE.out.set3 hl0 _ _ _⟩, by have := hjk'.out; simp [intOf]; omega⟩
            · obtain rfl : j = k := by omega
              have hend := gvF_end (t := t) hF64 HN.out
              rw [hend] at hq
              clear hend
              obtain ⟨q0, q1, q2⟩ := hq.c3
              obtain ⟨b0, b1, b2⟩ := hb.c3
              clear hb hq
              go_wp2
              go_ret
              exact ⟨rfl, HE.out⟩
      · have h64' : decide (k < 64) = false := by simp; omega
        have h64i : decide ((k : Int) < 64) = false := by simp; omega
        clear h64
        obtain ⟨b0, b1, b2⟩ := hb.c3
        rcases Joins.ownsRow_forms hown with ⟨rfl, hk0⟩ | ⟨g, cap, rfl⟩
        · have hz : ((0 : Int) != (k : Int)) = false := by simp; omega
          have Hk0 := Lib.hid hk0
          clear hk0 hown
          go_wp2_with fail; refine (hfp _).mono ?_; rintro e w4 ⟨rfl, hE⟩; replace HE := Lib.hid (HE.out.trans hE)
          replace hb := hb.ext hE
          replace hq := hq.ext hE
          clear hE b0 b1 b2 hfp
          obtain ⟨q0, q1, q2⟩ := hq.c3
          go_wp2_with fail; refine (hfe _).mono ?_; rintro e w5 ⟨rfl, hE⟩; replace HE := Lib.hid (HE.out.trans hE)
          replace hb := hb.ext hE
          replace hq := hq.ext hE
          clear hE q0 q1 q2 hfe hz
          have hkF : tkF F k = F := by rw [Hk0.out]; rfl
          rw [hkF] at hq
          clear hkF
          obtain ⟨q0, q1, q2⟩ := hq.c3
          obtain ⟨b0, b1, b2⟩ := hb.c3
          clear hb hq
          go_wp2_with fail
          go_loop [11] (fun i => i = .int .i64 0) (fun _ => 0)
          case atStart => exact rfl
          case round =>
            obtain rfl := hrel
            go_wp2
            go_ret
            exact ⟨rfl, HE.out⟩
        · obtain ⟨hrow, hWg⟩ := row_own hown
          clear hown
          go_wp2_with fail; refine (hfp _).mono ?_; rintro e w4 ⟨rfl, hE⟩; replace HE := Lib.hid (HE.out.trans hE)
          replace hb := hb.ext hE
          replace hq := hq.ext hE
          replace hrow := hrow.ext hE
          clear hE b0 b1 b2 hfp
          obtain ⟨q0, q1, q2⟩ := hq.c3
          go_wp2_with fail; refine (hfe _).mono ?_; rintro e w5 ⟨rfl, hE⟩; replace HE := Lib.hid (HE.out.trans hE)
          replace hb := hb.ext hE
          replace hq := hq.ext hE
          replace hrow := hrow.ext hE
          clear hE q0 q1 q2 hfe
          have hq0 : Blk w5 w2.heap.size 24 #[.int .u64 (B : Int), .int .i64 (m : Int), .int .u64 ((gvF F k t 0 : Nat) : Int)] := by
            have : tkF F k = gvF F k t 0 := by rw [HN.out, hE0]; rfl
            rw [this] at hq; exact hq
          clear hq
          have hgw : w2.heap.size < g := by omega
          go_wp2_with fail
          go_loopw [11] (fun i wr => ∃ j : Nat, j ≤ k ∧ i = .int .i64 j ∧ Blk wr w.heap.size 24 #[.int .u64 (B : Int), .int .i64 (m : Int), .int .u64 (F : Int)] ∧ Blk wr w2.heap.size 24 #[.int .u64 (B : Int), .int .i64 (m : Int), .int .u64 ((gvF F k t j : Nat) : Int)] ∧ RowU wr g k B F ∧ Ext w wr) (fun i _ => (k - intOf i).toNat)
          case atStart => exact ⟨0, by omega, rfl, hb, hq0, hrow, HE.out⟩
          case round =>
            clear hb hq0 hrow HE
            obtain ⟨j, hj, rfl, hb, hq, hrow, hE⟩ := hrel
            have HE := Lib.hid hE
            clear hE
            by_cases hjk : j < k
            · have hgj := hgv j hB2 hm hFm HN.out hjk
              have hmod : (j + t) % k < k := Nat.mod_lt _ (by omega)
              have hjk' := Lib.hid hjk
              obtain ⟨I, hI⟩ : ∃ I, (j + t) % k = I := ⟨_, rfl⟩
              rw [hI] at hgj hmod
              have hs1 : IntKind.i64.wrap ((j : Int) + (t : Int)) = (j : Int) + (t : Int) := by rw [IntKind.wrap_i64]; omega
              have hs2 : ((j : Int) + (t : Int)).tmod (k : Int) = (I : Int) := by
                rw [← hI, ← Int.natCast_add, Int.ofNat_tmod]
              clear hI hjk hgv
              go_wp2
              refine wp_region_fork [(0, false), (1, false), (2, false), (3, false), (4, false), (5, false), (6, false), (7, false), (8, false), (9, false), (10, false)] 11 [(12, false), (13, false), (14, false), (15, true), (16, true), (17, false)] 15 [(11, true), (12, false), (13, false), (14, false), (16, true), (17, false)] (Below (wr.heap.size)) (by kernel_rfl) (by kernel_rfl) (Below.refl _) (fun _ _ _ => Below.trans) ?_; simp only [List.map, nth_z, nth_s]
              have hql := hq.lt
              have hgl := hrow.1
              replace hb := hb.drew
              replace hq := hq.drew
              replace hrow : RowU wr.drew g k B F := hrow
              replace HE := Lib.hid HE.out.drew
              have hwd : wr.drew.heap.size = wr.heap.size := rfl
              generalize wr.drew = w6 at *
              refine seq_load rfl rfl (fun x hx => Blk.below (hq) hx hql) rfl Tryd.underlying24 (by kernel_rfl) (by rfl) ?_; intro K hK; simp only [Act.put, List.setIfInBounds_toArray, List.set_cons_zero, List.set_cons_succ]; refine hK _ ?_; clear hK K
              (repeat (first | (refine seq_skip (by rfl) ?_; intro K hK; simp only [Act.put, List.setIfInBounds_toArray, List.set_cons_zero, List.set_cons_succ]; refine hK _ ?_; clear hK K) | (refine seq_skipc (by rfl) ?_; intro K hK; simp only [Act.put, List.setIfInBounds_toArray, List.set_cons_zero, List.set_cons_succ]; refine hK _ ?_; clear hK K) | (refine seq_read (by rfl) (by rfl) ?_; intro K hK; go_big_quiet_op; first | go_big_quiet_on | (refine ⟨_, fun _ _ => rfl, ?_⟩; go_big_quiet_on))))
              refine seq_value (.int .u64 ((B : Int) + ((tkL F I : Nat) : Int))) (by rfl) (fun x hx => by have hq := (Below.cell hx (p := ⟨g, I, none⟩) hgl).trans (hrow.2 I hmod); simp [go_sem, execOp, Act.eval, hq]) ?_; intro K hK; simp only [Act.put, List.setIfInBounds_toArray, List.set_cons_zero, List.set_cons_succ]; refine hK _ ?_; clear hK K
              refine seq_done ?_
              have hbl6 := hb.lt
              refine ⟨?_, ?_⟩
              · refine seq_call (hgj _) rfl Tryd.func13 (by kernel_rfl) (by kernel_rfl) (by rfl) (by rfl) ?_; intro K hK; rintro e w' ⟨rfl, hE⟩; refine ⟨_, rfl, (Below.mono hE (by omega)), ?_⟩; simp only [Act.put, List.setIfInBounds_toArray, List.set_cons_zero, List.set_cons_succ]; refine hK _ _ ?_; clear hK K
                have hs7 : w6.heap.size ≤ w'.heap.size := hE.size
                replace hb := (hb.ext hE).alloc (.cells #[.int .u64 0, .int .i64 0, .int .u64 0] 24)
                replace hq := (hq.ext hE).alloc (.cells #[.int .u64 0, .int .i64 0, .int .u64 0] 24)
                replace hrow := (hrow.ext hE).ext ((Ext.refl w').alloc (.cells #[.int .u64 0, .int .i64 0, .int .u64 0] 24))
                replace HE := Lib.hid ((HE.out.trans hE).alloc (.cells #[.int .u64 0, .int .i64 0, .int .u64 0] 24))
                have hn := Blk.new w' 24 #[.int .u64 0, .int .i64 0, .int .u64 0]
                (repeat (first | (refine seq_skip (by rfl) ?_; intro K hK; simp only [Act.put, List.setIfInBounds_toArray, List.set_cons_zero, List.set_cons_succ]; refine hK _ ?_; clear hK K) | (refine seq_skipc (by rfl) ?_; intro K hK; simp only [Act.put, List.setIfInBounds_toArray, List.set_cons_zero, List.set_cons_succ]; refine hK _ ?_; clear hK K) | (refine seq_read (by rfl) (by rfl) ?_; intro K hK; go_big_quiet_op; first | go_big_quiet_on | (refine ⟨_, fun _ _ => rfl, ?_⟩; go_big_quiet_on))))
                refine seq_run (.pointer (some ⟨w'.heap.size, 0, none⟩)) (w'.alloc (.cells #[.int .u64 0, .int .i64 0, .int .u64 0] 24)) (by rfl) ?_ (Below.alloc (Below.refl _ _) (by omega) _) ?_; (simp [go_sem, execOp, Act.eval]); intro K hK; simp only [Act.put, List.setIfInBounds_toArray, List.set_cons_zero, List.set_cons_succ]; refine hK _ _ ?_; clear hK K
                generalize w'.alloc (.cells #[.int .u64 0, .int .i64 0, .int .u64 0] 24) = w8 at *
                have hnb : wr.heap.size ≤ w'.heap.size := by omega
                clear hE
                obtain ⟨z0, z1, z2⟩ := hn.c3; obtain ⟨y0, y1, y2⟩ := hn.f3; have hnl := hn.lt; refine seq_store ((((w8).setCell ⟨w'.heap.size, 0, none⟩ (.int .u64 (B : Int))).setCell ⟨w'.heap.size, 1, none⟩ (.int .i64 (m : Int))).setCell ⟨w'.heap.size, 2, none⟩ (.int .u64 ((gvF F k t (j + 1) : Nat) : Int))) (by rfl) ?_ (((Below.setCell (p := ⟨w'.heap.size, 0, none⟩) (Below.refl _ _) (by show wr.heap.size ≤ w'.heap.size; omega) _).setCell (p := ⟨w'.heap.size, 1, none⟩) (by show wr.heap.size ≤ w'.heap.size; omega) _).setCell (p := ⟨w'.heap.size, 2, none⟩) (by show wr.heap.size ≤ w'.heap.size; omega) _) ?_; (simp [go_sem, execOp, Act.eval, z0, z1, z2, y0, y1, y2]); intro K hK; simp only [Act.put, List.setIfInBounds_toArray, List.set_cons_zero, List.set_cons_succ]; refine hK _ _ ?_; clear hK K; (repeat (first | (refine seq_skip (by rfl) ?_; intro K hK; simp only [Act.put, List.setIfInBounds_toArray, List.set_cons_zero, List.set_cons_succ]; refine hK _ ?_; clear hK K) | (refine seq_skipc (by rfl) ?_; intro K hK; simp only [Act.put, List.setIfInBounds_toArray, List.set_cons_zero, List.set_cons_succ]; refine hK _ ?_; clear hK K) | (refine seq_read (by rfl) (by rfl) ?_; intro K hK; go_big_quiet_op; first | go_big_quiet_on | (refine ⟨_, fun _ _ => rfl, ?_⟩; go_big_quiet_on)))); refine seq_done ?_; have e1 : w'.heap.size ≠ w.heap.size := (by omega); have e2 : w'.heap.size ≠ w2.heap.size := (by omega); have e3 : w'.heap.size ≠ g := (by omega); replace hb := hb.other3 e1 (.int .u64 (B : Int)) (.int .i64 (m : Int)) (.int .u64 ((gvF F k t (j + 1) : Nat) : Int)); replace hq := hq.other3 e2 (.int .u64 (B : Int)) (.int .i64 (m : Int)) (.int .u64 ((gvF F k t (j + 1) : Nat) : Int)); replace hrow := hrow.set3 e3 (.int .u64 (B : Int)) (.int .i64 (m : Int)) (.int .u64 ((gvF F k t (j + 1) : Nat) : Int)); replace hn := hn.set3 (.int .u64 (B : Int)) (.int .i64 (m : Int)) (.int .u64 ((gvF F k t (j + 1) : Nat) : Int)); replace HE := Lib.hid (HE.out.set3 (show w.heap.size ≤ w'.heap.size by omega) (.int .u64 (B : Int)) (.int .i64 (m : Int)) (.int .u64 ((gvF F k t (j + 1) : Nat) : Int))); generalize ((((w8).setCell ⟨w'.heap.size, 0, none⟩ (.int .u64 (B : Int))).setCell ⟨w'.heap.size, 1, none⟩ (.int .i64 (m : Int))).setCell ⟨w'.heap.size, 2, none⟩ (.int .u64 ((gvF F k t (j + 1) : Nat) : Int))) = w9 at *; clear z0 z1 z2 y0 y1 y2; obtain ⟨z0, z1, z2⟩ := hn.c3; obtain ⟨q0, q1, q2⟩ := hq.c3; obtain ⟨f0, f1, f2⟩ := hq.f3; have Hb := Lib.hid hb; have Hq := Lib.hid hq; have Hr := Lib.hid hrow; have x1 : w2.heap.size ≠ w.heap.size := (by omega); have x2 : w2.heap.size ≠ g := (by omega); clear hb hq hrow hn hs1 hs2 hwd; (try clear hs8); go_wp2; exact ⟨⟨j + 1, hjk'.out, by go_num, Hb.out.other3 x1 _ _ _, Hq.out.set3 _ _ _, Hr.out.set3 x2 _ _ _, HE.out.set3 hl0 _ _ _⟩, by have := hjk'.out; simp [intOf]; omega⟩
              · refine seq_run (.pointer (some ⟨w6.heap.size, 0, none⟩)) (w6.alloc (.cells #[.int .u64 0, .int .i64 0, .int .u64 0] 24)) (by rfl) ?_ (Below.alloc (Below.refl _ _) (by omega) _) ?_; (simp [go_sem, execOp, Act.eval]); intro K hK; simp only [Act.put, List.setIfInBounds_toArray, List.set_cons_zero, List.set_cons_succ]; refine hK _ _ ?_; clear hK K
                replace hb := hb.alloc (.cells #[.int .u64 0, .int .i64 0, .int .u64 0] 24)
                replace hq := hq.alloc (.cells #[.int .u64 0, .int .i64 0, .int .u64 0] 24)
                replace hrow := hrow.ext ((Ext.refl w6).alloc (.cells #[.int .u64 0, .int .i64 0, .int .u64 0] 24))
                replace HE := Lib.hid (HE.out.alloc (.cells #[.int .u64 0, .int .i64 0, .int .u64 0] 24))
                have hn := Blk.new w6 24 #[.int .u64 0, .int .i64 0, .int .u64 0]
                have hs8 := World.size_alloc w6 (.cells #[.int .u64 0, .int .i64 0, .int .u64 0] 24)
                generalize w6.alloc (.cells #[.int .u64 0, .int .i64 0, .int .u64 0] 24) = w7 at *
                refine seq_call (hgj _) rfl Tryd.func13 (by kernel_rfl) (by kernel_rfl) (by rfl) (by rfl) ?_; intro K hK; rintro e w' ⟨rfl, hE⟩; refine ⟨_, rfl, (Below.mono hE (by omega)), ?_⟩; simp only [Act.put, List.setIfInBounds_toArray, List.set_cons_zero, List.set_cons_succ]; refine hK _ _ ?_; clear hK K
                replace hb := hb.ext hE
                replace hq := hq.ext hE
                replace hrow := hrow.ext hE
                replace HE := Lib.hid (HE.out.trans hE)
                replace hn := hn.ext hE
                have hnb : wr.heap.size ≤ w6.heap.size := by omega
                clear hE
                (repeat (first | (refine seq_skip (by rfl) ?_; intro K hK; simp only [Act.put, List.setIfInBounds_toArray, List.set_cons_zero, List.set_cons_succ]; refine hK _ ?_; clear hK K) | (refine seq_skipc (by rfl) ?_; intro K hK; simp only [Act.put, List.setIfInBounds_toArray, List.set_cons_zero, List.set_cons_succ]; refine hK _ ?_; clear hK K) | (refine seq_read (by rfl) (by rfl) ?_; intro K hK; go_big_quiet_op; first | go_big_quiet_on | (refine ⟨_, fun _ _ => rfl, ?_⟩; go_big_quiet_on))))
                obtain ⟨z0, z1, z2⟩ := hn.c3; obtain ⟨y0, y1, y2⟩ := hn.f3; have hnl := hn.lt; refine seq_store ((((w').setCell ⟨w6.heap.size, 0, none⟩ (.int .u64 (B : Int))).setCell ⟨w6.heap.size, 1, none⟩ (.int .i64 (m : Int))).setCell ⟨w6.heap.size, 2, none⟩ (.int .u64 ((gvF F k t (j + 1) : Nat) : Int))) (by rfl) ?_ (((Below.setCell (p := ⟨w6.heap.size, 0, none⟩) (Below.refl _ _) (by show wr.heap.size ≤ w6.heap.size; omega) _).setCell (p := ⟨w6.heap.size, 1, none⟩) (by show wr.heap.size ≤ w6.heap.size; omega) _).setCell (p := ⟨w6.heap.size, 2, none⟩) (by show wr.heap.size ≤ w6.heap.size; omega) _) ?_; (simp [go_sem, execOp, Act.eval, z0, z1, z2, y0, y1, y2]); intro K hK; simp only [Act.put, List.setIfInBounds_toArray, List.set_cons_zero, List.set_cons_succ]; refine hK _ _ ?_; clear hK K; (repeat (first | (refine seq_skip (by rfl) ?_; intro K hK; simp only [Act.put, List.setIfInBounds_toArray, List.set_cons_zero, List.set_cons_succ]; refine hK _ ?_; clear hK K) | (refine seq_skipc (by rfl) ?_; intro K hK; simp only [Act.put, List.setIfInBounds_toArray, List.set_cons_zero, List.set_cons_succ]; refine hK _ ?_; clear hK K) | (refine seq_read (by rfl) (by rfl) ?_; intro K hK; go_big_quiet_op; first | go_big_quiet_on | (refine ⟨_, fun _ _ => rfl, ?_⟩; go_big_quiet_on)))); refine seq_done ?_; have e1 : w6.heap.size ≠ w.heap.size := (by omega); have e2 : w6.heap.size ≠ w2.heap.size := (by omega); have e3 : w6.heap.size ≠ g := (by omega); replace hb := hb.other3 e1 (.int .u64 (B : Int)) (.int .i64 (m : Int)) (.int .u64 ((gvF F k t (j + 1) : Nat) : Int)); replace hq := hq.other3 e2 (.int .u64 (B : Int)) (.int .i64 (m : Int)) (.int .u64 ((gvF F k t (j + 1) : Nat) : Int)); replace hrow := hrow.set3 e3 (.int .u64 (B : Int)) (.int .i64 (m : Int)) (.int .u64 ((gvF F k t (j + 1) : Nat) : Int)); replace hn := hn.set3 (.int .u64 (B : Int)) (.int .i64 (m : Int)) (.int .u64 ((gvF F k t (j + 1) : Nat) : Int)); replace HE := Lib.hid (HE.out.set3 (show w.heap.size ≤ w6.heap.size by omega) (.int .u64 (B : Int)) (.int .i64 (m : Int)) (.int .u64 ((gvF F k t (j + 1) : Nat) : Int))); generalize ((((w').setCell ⟨w6.heap.size, 0, none⟩ (.int .u64 (B : Int))).setCell ⟨w6.heap.size, 1, none⟩ (.int .i64 (m : Int))).setCell ⟨w6.heap.size, 2, none⟩ (.int .u64 ((gvF F k t (j + 1) : Nat) : Int))) = w9 at *; clear z0 z1 z2 y0 y1 y2; obtain ⟨z0, z1, z2⟩ := hn.c3; obtain ⟨q0, q1, q2⟩ := hq.c3; obtain ⟨f0, f1, f2⟩ := hq.f3; have Hb := Lib.hid hb; have Hq := Lib.hid hq; have Hr := Lib.hid hrow; have x1 : w2.heap.size ≠ w.heap.size := (by omega); have x2 : w2.heap.size ≠ g := (by omega); clear hb hq hrow hn hs1 hs2 hwd; (try clear hs8); go_wp2; exact ⟨⟨j + 1, hjk'.out, by go_num, Hb.out.other3 x1 _ _ _, Hq.out.set3 _ _ _, Hr.out.set3 x2 _ _ _, HE.out.set3 hl0 _ _ _⟩, by have := hjk'.out; simp [intOf]; omega⟩
            · obtain rfl : j = k := by omega
              have hend := gvF_end (t := t) hF64 HN.out
              rw [hend] at hq
              clear hend
              obtain ⟨q0, q1, q2⟩ := hq.c3
              obtain ⟨b0, b1, b2⟩ := hb.c3
              clear hb hq
              go_wp2
              go_ret
              exact ⟨rfl, HE.out⟩
end Go.Proofs.YtdiffllpoappfaaDoor
