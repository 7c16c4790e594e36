/- The document's answers for causes (atlasref09). -/
import Derived.Test.YtlcdkejjojginaaDoorCninb
namespace Go.Proofs.YtlcdkejjojginaaDoor
open Go.ChangeShapes Go.WideShapes Go.ChangeAt Go.RowKit
set_option linter.unusedVariables false
set_option linter.unusedSimpArgs false

theorem rnum9_c (s k : Nat) (hs : s < 3) (hk : k < 3) (w : World) :
    Calls Tryd.prog 17 #[.int .i64 ((s + 1 : Nat) : Int), .int .i64 (k : Int)] w fun e w' => e = .returned (.int .i64 (cauI (3 * s + k))) ∧ Ext w w' := by
  obtain ⟨v0, v1, v2, v3, v4, v5, v6, v7, v8⟩ := cau_val
  rcases (by omega : s = 0 ∨ s = 1 ∨ s = 2) with rfl | rfl | rfl <;> rcases (by omega : k = 0 ∨ k = 1 ∨ k = 2) with rfl | rfl | rfl
  all_goals
    simp only [Nat.reduceMul, Nat.reduceAdd]
    simp only [v0, v1, v2, v3, v4, v5, v6, v7, v8]
    clear v0 v1 v2 v3 v4 v5 v6 v7 v8
    go_enter Tryd.func17, Tryd.ntmps17
    go_wp2
    go_ret
    exact ⟨rfl, (Ext.refl w).alloc _⟩
theorem rfault9_c (s k : Nat) (hs : s < 3) (hk : k < 3) (a : Nat) (w : World) :
    Calls Tryd.prog 9 #[.int .i64 ((s + 1 : Nat) : Int), .int .i64 (k : Int), .int .u64 (a : Int)] w fun e w' => e = .returned (.agg (ftC ⟨true, cauI (3 * s + k), a⟩)) ∧ Ext w w' := by
  have hf := rnum9_c s k hs hk
  rw [ftC_def]
  generalize cauI (3 * s + k) = c at hf ⊢
  clear hs hk
  generalize ((s + 1 : Nat) : Int) = s1 at hf ⊢
  go_enter Tryd.func9, Tryd.ntmps9
  go_wp2_with fail
  refine (hf _).mono ?_
  rintro e w1 ⟨rfl, hE⟩
  have hb := blk_one hE
  have HE := Lib.hid (ext_one hE)
  clear hE hf
  go_wp2_with (refine wpList_store_row rfl 25 _ _ rfl _ _ rfl rfl _ _ hb (by kernel_rfl) (by rfl) (by simp [Value.oneCell']) ?_)
  (try simp only [Exit.inBlock, Exit.then]); refine bodyPost_ret (results_cell_row rfl _ _ _ _ _ _ _ rfl ((hb.row _)) Tryd.underlying25 rfl (by kernel_rfl)) rfl ?_
  exact ⟨rfl, HE.out.row (Nat.le_refl _) _⟩
set_option maxHeartbeats 1000000 in
theorem rsort9_c (n : Int) (w : World) :
    Calls Tryd.prog 13 #[.int .i64 n] w fun e w' => e = .returned (.tuple #[.int .i64 (srtI (posN n)), .int .i64 (kndI (posN n))]) ∧ Ext w w' := by
  have hp := fun q (hq : q < 9) => pos_test n (q := q) hq rfl
  have hle := pos_le n
  generalize posN n = m at hp hle ⊢
  have P := Lib.hid hp
  clear hp
  go_enter Tryd.func13, Tryd.ntmps13
  go_wp2
  go_loopw [4] (fun i wr => ∃ k : Int, 1 ≤ k ∧ k ≤ 4 ∧ i = .int .i64 k ∧ 3 * (k - 1) ≤ m ∧ Ext w wr) (fun i _ => 4 - (intOf i).toNat)
  case atStart => exact ⟨1, by omega, by omega, rfl, by omega, Ext.refl _⟩
  case round =>
    obtain ⟨k, hk1, hk, rfl, hkm, HE⟩ := hrel
    by_cases hlt : k < 4
    · rcases (by omega : k = 1 ∨ k = 2 ∨ k = 3) with rfl | rfl | rfl
      · go_wp2
        go_loopw [5] (fun j wq => ∃ q : Nat, q ≤ 3 ∧ j = .int .i64 q ∧ 0 + q ≤ m ∧ Ext w wq) (fun j _ => 3 - (intOf j).toNat)
        case atStart => exact ⟨0, by omega, rfl, by omega, HE⟩
        case round =>
          clear HE
          obtain ⟨q, hq, rfl, hqm, HE⟩ := hrel
          by_cases hql : q < 3
          · rcases (by omega : q = 0 ∨ q = 1 ∨ q = 2) with rfl | rfl | rfl
            · have hf := rnum9_c 0 0 (by decide) (by decide)
              have ht := P.out 0 (by decide)
              simp only [Nat.reduceMul, Nat.reduceAdd] at hf
              generalize cauI 0 = c at hf ht
              by_cases hm : m = 0
              · subst hm
                rw [decide_eq_true rfl] at ht
                go_wp2_with fail
                refine (hf _).mono ?_
                rintro e w1 ⟨rfl, hE⟩
                have HE := HE.trans hE
                go_wp2
                go_ret2
                exact ⟨two_ret (by simp [srtI]) (by simp [kndI]), HE⟩
              · rw [decide_eq_false hm] at ht
                go_wp2_with fail
                refine (hf _).mono ?_
                rintro e w1 ⟨rfl, hE⟩
                have HE := HE.trans hE
                go_wp2
                go_roundw
                case rel => exact ⟨1, by omega, by go_num, by omega, HE⟩
                case measure => simp [intOf]
            · have hf := rnum9_c 0 1 (by decide) (by decide)
              have ht := P.out 1 (by decide)
              simp only [Nat.reduceMul, Nat.reduceAdd] at hf
              generalize cauI 1 = c at hf ht
              by_cases hm : m = 1
              · subst hm
                rw [decide_eq_true rfl] at ht
                go_wp2_with fail
                refine (hf _).mono ?_
                rintro e w1 ⟨rfl, hE⟩
                have HE := HE.trans hE
                go_wp2
                go_ret2
                exact ⟨two_ret (by simp [srtI]) (by simp [kndI]), HE⟩
              · rw [decide_eq_false hm] at ht
                go_wp2_with fail
                refine (hf _).mono ?_
                rintro e w1 ⟨rfl, hE⟩
                have HE := HE.trans hE
                go_wp2
                go_roundw
                case rel => exact ⟨2, by omega, by go_num, by omega, HE⟩
                case measure => simp [intOf]
            · have hf := rnum9_c 0 2 (by decide) (by decide)
              have ht := P.out 2 (by decide)
              simp only [Nat.reduceMul, Nat.reduceAdd] at hf
              generalize cauI 2 = c at hf ht
              by_cases hm : m = 2
              · subst hm
                rw [decide_eq_true rfl] at ht
                go_wp2_with fail
                refine (hf _).mono ?_
                rintro e w1 ⟨rfl, hE⟩
                have HE := HE.trans hE
                go_wp2
                go_ret2
                exact ⟨two_ret (by simp [srtI]) (by simp [kndI]), HE⟩
              · rw [decide_eq_false hm] at ht
                go_wp2_with fail
                refine (hf _).mono ?_
                rintro e w1 ⟨rfl, hE⟩
                have HE := HE.trans hE
                go_wp2
                go_roundw
                case rel => exact ⟨3, by omega, by go_num, by omega, HE⟩
                case measure => simp [intOf]
          · obtain rfl : q = 3 := by omega
            go_wp2
            go_roundw
            case rel => exact ⟨2, by omega, by omega, by go_num, by omega, HE⟩
            case measure => simp [intOf]
      · go_wp2
        go_loopw [5] (fun j wq => ∃ q : Nat, q ≤ 3 ∧ j = .int .i64 q ∧ 3 + q ≤ m ∧ Ext w wq) (fun j _ => 3 - (intOf j).toNat)
        case atStart => exact ⟨0, by omega, rfl, by omega, HE⟩
        case round =>
          clear HE
          obtain ⟨q, hq, rfl, hqm, HE⟩ := hrel
          by_cases hql : q < 3
          · rcases (by omega : q = 0 ∨ q = 1 ∨ q = 2) with rfl | rfl | rfl
            · have hf := rnum9_c 1 0 (by decide) (by decide)
              have ht := P.out 3 (by decide)
              simp only [Nat.reduceMul, Nat.reduceAdd] at hf
              generalize cauI 3 = c at hf ht
              by_cases hm : m = 3
              · subst hm
                rw [decide_eq_true rfl] at ht
                go_wp2_with fail
                refine (hf _).mono ?_
                rintro e w1 ⟨rfl, hE⟩
                have HE := HE.trans hE
                go_wp2
                go_ret2
                exact ⟨two_ret (by simp [srtI]) (by simp [kndI]), HE⟩
              · rw [decide_eq_false hm] at ht
                go_wp2_with fail
                refine (hf _).mono ?_
                rintro e w1 ⟨rfl, hE⟩
                have HE := HE.trans hE
                go_wp2
                go_roundw
                case rel => exact ⟨1, by omega, by go_num, by omega, HE⟩
                case measure => simp [intOf]
            · have hf := rnum9_c 1 1 (by decide) (by decide)
              have ht := P.out 4 (by decide)
              simp only [Nat.reduceMul, Nat.reduceAdd] at hf
              generalize cauI 4 = c at hf ht
              by_cases hm : m = 4
              · subst hm
                rw [decide_eq_true rfl] at ht
                go_wp2_with fail
                refine (hf _).mono ?_
                rintro e w1 ⟨rfl, hE⟩
                have HE := HE.trans hE
                go_wp2
                go_ret2
                exact ⟨two_ret (by simp [srtI]) (by simp [kndI]), HE⟩
              · rw [decide_eq_false hm] at ht
                go_wp2_with fail
                refine (hf _).mono ?_
                rintro e w1 ⟨rfl, hE⟩
                have HE := HE.trans hE
                go_wp2
                go_roundw
                case rel => exact ⟨2, by omega, by go_num, by omega, HE⟩
                case measure => simp [intOf]
            · have hf := rnum9_c 1 2 (by decide) (by decide)
              have ht := P.out 5 (by decide)
              simp only [Nat.reduceMul, Nat.reduceAdd] at hf
              generalize cauI 5 = c at hf ht
              by_cases hm : m = 5
              · subst hm
                rw [decide_eq_true rfl] at ht
                go_wp2_with fail
                refine (hf _).mono ?_
                rintro e w1 ⟨rfl, hE⟩
                have HE := HE.trans hE
                go_wp2
                go_ret2
                exact ⟨two_ret (by simp [srtI]) (by simp [kndI]), HE⟩
              · rw [decide_eq_false hm] at ht
                go_wp2_with fail
                refine (hf _).mono ?_
                rintro e w1 ⟨rfl, hE⟩
                have HE := HE.trans hE
                go_wp2
                go_roundw
                case rel => exact ⟨3, by omega, by go_num, by omega, HE⟩
                case measure => simp [intOf]
          · obtain rfl : q = 3 := by omega
            go_wp2
            go_roundw
            case rel => exact ⟨3, by omega, by omega, by go_num, by omega, HE⟩
            case measure => simp [intOf]
      · go_wp2
        go_loopw [5] (fun j wq => ∃ q : Nat, q ≤ 3 ∧ j = .int .i64 q ∧ 6 + q ≤ m ∧ Ext w wq) (fun j _ => 3 - (intOf j).toNat)
        case atStart => exact ⟨0, by omega, rfl, by omega, HE⟩
        case round =>
          clear HE
          obtain ⟨q, hq, rfl, hqm, HE⟩ := hrel
          by_cases hql : q < 3
          · rcases (by omega : q = 0 ∨ q = 1 ∨ q = 2) with rfl | rfl | rfl
            · have hf := rnum9_c 2 0 (by decide) (by decide)
              have ht := P.out 6 (by decide)
              simp only [Nat.reduceMul, Nat.reduceAdd] at hf
              generalize cauI 6 = c at hf ht
              by_cases hm : m = 6
              · subst hm
                rw [decide_eq_true rfl] at ht
                go_wp2_with fail
                refine (hf _).mono ?_
                rintro e w1 ⟨rfl, hE⟩
                have HE := HE.trans hE
                go_wp2
                go_ret2
                exact ⟨two_ret (by simp [srtI]) (by simp [kndI]), HE⟩
              · rw [decide_eq_false hm] at ht
                go_wp2_with fail
                refine (hf _).mono ?_
                rintro e w1 ⟨rfl, hE⟩
                have HE := HE.trans hE
                go_wp2
                go_roundw
                case rel => exact ⟨1, by omega, by go_num, by omega, HE⟩
                case measure => simp [intOf]
            · have hf := rnum9_c 2 1 (by decide) (by decide)
              have ht := P.out 7 (by decide)
              simp only [Nat.reduceMul, Nat.reduceAdd] at hf
              generalize cauI 7 = c at hf ht
              by_cases hm : m = 7
              · subst hm
                rw [decide_eq_true rfl] at ht
                go_wp2_with fail
                refine (hf _).mono ?_
                rintro e w1 ⟨rfl, hE⟩
                have HE := HE.trans hE
                go_wp2
                go_ret2
                exact ⟨two_ret (by simp [srtI]) (by simp [kndI]), HE⟩
              · rw [decide_eq_false hm] at ht
                go_wp2_with fail
                refine (hf _).mono ?_
                rintro e w1 ⟨rfl, hE⟩
                have HE := HE.trans hE
                go_wp2
                go_roundw
                case rel => exact ⟨2, by omega, by go_num, by omega, HE⟩
                case measure => simp [intOf]
            · have hf := rnum9_c 2 2 (by decide) (by decide)
              have ht := P.out 8 (by decide)
              simp only [Nat.reduceMul, Nat.reduceAdd] at hf
              generalize cauI 8 = c at hf ht
              by_cases hm : m = 8
              · subst hm
                rw [decide_eq_true rfl] at ht
                go_wp2_with fail
                refine (hf _).mono ?_
                rintro e w1 ⟨rfl, hE⟩
                have HE := HE.trans hE
                go_wp2
                go_ret2
                exact ⟨two_ret (by simp [srtI]) (by simp [kndI]), HE⟩
              · rw [decide_eq_false hm] at ht
                go_wp2_with fail
                refine (hf _).mono ?_
                rintro e w1 ⟨rfl, hE⟩
                have HE := HE.trans hE
                go_wp2
                go_roundw
                case rel => exact ⟨3, by omega, by go_num, by omega, HE⟩
                case measure => simp [intOf]
          · obtain rfl : q = 3 := by omega
            go_wp2
            go_roundw
            case rel => exact ⟨4, by omega, by omega, by go_num, by omega, HE⟩
            case measure => simp [intOf]
    · obtain rfl : k = 4 := by omega
      obtain rfl : m = 9 := by omega
      go_wp2
      go_ret2
      exact ⟨two_ret (by simp [srtI]) (by simp [kndI]), HE⟩
set_option maxHeartbeats 1000000 in
theorem rname9_c (n : Int) (w : World) :
    Calls Tryd.prog 15 #[.int .i64 n] w fun e w' => e = .returned (.string (namB (posN n))) ∧ Ext w w' := by
  have hs := rsort9_c n w
  have hle := pos_le n
  generalize posN n = m at hs hle ⊢
  obtain ⟨n0, n1, n2, n3, n4, n5, n6, n7, n8⟩ := nam_val
  have n9 := nam_none
  rcases ten hle with rfl | rfl | rfl | rfl | rfl | rfl | rfl | rfl | rfl | rfl
  all_goals
    simp only [n0, n1, n2, n3, n4, n5, n6, n7, n8, n9]
    simp only [srtI, kndI, Nat.reduceLT, if_true, if_false, Nat.reduceDiv, Nat.reduceMod, Nat.reduceAdd] at hs
    clear n0 n1 n2 n3 n4 n5 n6 n7 n8 n9
    go_enter Tryd.func15, Tryd.ntmps15
    go_wp2_with fail
    refine hs.mono ?_
    rintro e w1 ⟨rfl, hE⟩
    have HE := Lib.hid hE
    clear hE hs
    go_wp2
    first
      | (go_ret; exact ⟨rfl, HE.out⟩)
      | (go_region
         all_goals
           go_wp2
           go_ret
           exact ⟨str_ret (by decide), ((HE.out.alloc _).alloc _).drew⟩)
end Go.Proofs.YtlcdkejjojginaaDoor
