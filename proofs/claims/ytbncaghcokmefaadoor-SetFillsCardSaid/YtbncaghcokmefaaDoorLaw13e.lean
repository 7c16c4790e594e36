/- SetFills; a slice of entries that came in. -/
import Derived.Test.YtbncaghcokmefaaDoorLaw13a
import Derived.Test.YtbncaghcokmefaaDoorOpen13
namespace Go.Proofs.YtbncaghcokmefaaDoor
open Go.ChangeShapes Go.WideShapes Go.ChangeAt Go.RowKit Go.Joins Go.Deep
set_option linter.unusedVariables false
set_option linter.unusedSimpArgs false
set_option maxRecDepth 10000

/-! four unlike entries fill an empty set; the fifth -/
def flW (l : Nat → En) (i : Nat) : Ws := ⟨if 0 < i then l 0 else e0, if 1 < i then l 1 else e0, if 2 < i then l 2 else e0, if 3 < i then l 3 else e0⟩
def trF (i : Nat) : Nat := if i = 0 then 0 else if i = 1 then 3 else if i = 2 then 1 else if i = 3 then 4 else 0
def flS (l : Nat → En) (i : Nat) : St := ⟨flW l i, trF i⟩
theorem flW_at (l : Nat → En) (i : Nat) {j : Nat} (hj : j < 4) : (flW l i).at j = if j < i then l j else e0 := by
  rcases k_four hj with rfl | rfl | rfl | rfl <;> rfl
theorem flS_0 (l : Nat → En) : flS l 0 = s0 := by unfold flS flW trF s0; rfl
theorem trF_lt (i : Nat) : trF i < 8 := by
  unfold trF; split
  · omega
  split
  · omega
  split
  · omega
  split <;> omega
theorem trF_to {i : Nat} (h : i < 4) : toN (trF i) i = trF (i + 1) := by
  rcases k_four h with rfl | rfl | rfl | rfl
  · exact to_tab0.1
  · exact to_tab1.2.2.2.1
  · exact to_tab2.2.1
  · exact to_tab3.2.2.2.2.1
structure Unl (l : Nat → En) (i : Nat) : Prop where
  v : ∀ j, j < i → (l j).v = true
  n : ∀ j k, j < i → k < j → sameE (l j) (l k) = false
theorem fl_cut {l : Nat → En} {i n : Nat} (h : Unl l (i + 1)) (hn : n ≤ i) : cutW (l i) (flW l n) = flW l n := ws_ext fun j hj => by
  rw [cut_at _ _ hj, flW_at l n hj]
  by_cases hl : j < n
  · rw [if_pos hl, h.n i j (by omega) (by omega)]; rfl
  · rw [if_neg hl, same_e0]; rfl
theorem fl_way {l : Nat → En} {i : Nat} (h : Unl l (i + 1)) (hi : i < 4) : wayS (l i) (-1) (flS l i) = i := by
  have hc : cutW (l i) (flS l i).ws = flW l i := fl_cut h (Nat.le_refl i)
  have hit := fi_hit (p := emptyE) (s := flW l i) hi (fun j hj => by rw [empty_eq, flW_at l i (by omega), if_pos hj, h.v j (by omega)]; rfl) (by rw [empty_eq, flW_at l i hi, if_neg (by omega), e0_v]; rfl)
  rw [way_fst (by omega) (by rw [hc]; exact hit.2), hc]
  exact hit.1
theorem fl_put {l : Nat → En} {i : Nat} (h : Unl l (i + 1)) (hi : i < 4) : putS (l i) (-1) (flS l i) = flS l (i + 1) := by
  rw [putS_eq, fl_way h hi, show cutW (l i) (flS l i).ws = flW l i from fl_cut h (Nat.le_refl i), show (flS l i).t = trF i from rfl, trF_to hi]
  have hw : (flW l i).put i (l i) = flW l (i + 1) := ws_ext fun j hj => by
    rw [at_put hi hj, flW_at l i hj, flW_at l (i + 1) hj]
    by_cases hji : j = i
    · rw [if_pos hji, if_pos (by omega), hji]
    · rw [if_neg hji]
      by_cases hl : j < i
      · rw [if_pos hl, if_pos (by omega)]
      · rw [if_neg hl, if_neg (by omega)]
  rw [hw]; rfl
theorem fl_last {l : Nat → En} (h : Unl l 5) : wayS (l 4) (-1) (flS l 4) = 0 ∧ (putS (l 4) (-1) (flS l 4)).ws.at 0 = l 4 ∧ (putS (l 4) (-1) (flS l 4)).ws.at 1 = l 1 ∧ (putS (l 4) (-1) (flS l 4)).ws.at 2 = l 2 ∧ (putS (l 4) (-1) (flS l 4)).ws.at 3 = l 3 := by
  have hc : cutW (l 4) (flS l 4).ws = flW l 4 := fl_cut h (Nat.le_refl 4)
  have hno := fi_none (p := emptyE) (s := flW l 4) (fun j hj => by rw [empty_eq, flW_at l 4 hj, if_pos hj, h.v j (by omega)]; rfl)
  have hw : wayS (l 4) (-1) (flS l 4) = 0 := by
    rw [way_old (by omega) (by rw [hc]; exact hno.2)]
    exact vi_tab.1
  refine ⟨hw, ?_, ?_, ?_, ?_⟩
  all_goals
    rw [putS_ws, hw, hc, at_put (by decide) (by decide)]
    rfl
theorem flS_lt (l : Nat → En) (i : Nat) : (flS l i).t < 8 := trF_lt i
attribute [irreducible] flW trF flS

theorem rng_below {B : Nat} {w w' : World} {b o : Nat} {vs : List Value} (h : Below B w w') (hb : b < B) (k : w.rangeAt b o vs) : w'.rangeAt b o vs := fun j v hj => (Below.cell h (p := ⟨b, o + j, none⟩) hb).trans (k j v hj)
theorem rng_v {w : World} {b o : Nat} {e : En} (h : w.rangeAt b o (enC e).toList) : w.cell? ⟨b, o, none⟩ = some (.bool e.v) := h 0 _ (by rw [Array.getElem?_toList, enC_v])
theorem rng_lt {w : World} {b o : Nat} {e : En} (h : w.rangeAt b o (enC e).toList) : b < w.heap.size := by
  have hl := block_lt_of_cell (rng_v h)
  simpa using hl
theorem unl_le {l : Nat → En} {i n : Nat} (h : Unl l n) (hi : i ≤ n) : Unl l i := ⟨fun j hj => h.v j (by omega), fun j k hj hk => h.n j k (by omega) hk⟩
theorem unl_next {l : Nat → En} {k : Nat} (h : Unl l k) (hv : (l k).v = true) (hn : ∀ y, y < k → sameE (l k) (l y) = false) : Unl l (k + 1) :=
  ⟨fun j hj => by
    rcases Nat.lt_or_ge j k with h1 | h1
    · exact h.v j h1
    · obtain rfl : j = k := by omega
      exact hv, fun j y hj hy => by
    rcases Nat.lt_or_ge j k with h1 | h1
    · exact h.n j y h1 hy
    · obtain rfl : j = k := by omega
      exact hn y hy⟩
set_option maxRecDepth 100000 in
set_option maxHeartbeats 8000000 in
theorem SetFills_w (A : Option Addr) (L : List En) (c : Nat) (w : World) (hl : EnS w A L) (hlc : L.length ≤ c) (hcm : c ≤ 9223372036854775807) (hT : Lays w) :
    Calls Tryd.prog 6 #[.slice A L.length c] w fun r w' => r = .returned (.bool true) ∧ Ext w w' := by
  have HE := Lib.hid (Ext.refl w)
  have HT := Lib.hid hT
  by_cases h5 : L.length = 5
  · obtain ⟨b, off, rfl, hrw⟩ := hl (by omega)
    rw [h5] at hrw ⊢
    generalize hle : (fun i => L.getD i e0) = l
    replace hrw : ∀ i, i < 5 → w.rangeAt b (off + i * 11) (enC (l i)).toList := fun i hi => by rw [← hle]; exact hrw i hi
    clear hle h5 hlc L hl
    have hrx : ∀ W : World, Ext w W → ∀ i, i < 5 → W.rangeAt b (off + i * 11) (enC (l i)).toList := fun W h i hi => rng_ext h (hrw i hi)
    clear hrw
    go_enter Tryd.func6, Tryd.ntmps6
    go_wp2_with (fail); refine (awake13_c _ HT.out).mono ?_; rintro e w' ⟨rfl, hE⟩; (try replace hm := hm.ext hE); (try replace h1 := h1.ext hE); (try replace h5 := h5.ext hE); (try replace h7 := h7.ext hE); (try replace HT := Lib.hid (HT.out.ext hE)); (try replace HE := Lib.hid (HE.out.trans hE))
    clear hE
    go_wp2
    go_loopw [3] (fun i wr => ∃ k : Nat, k ≤ 5 ∧ i = .int .i64 k ∧ Hid (Unl l k ∧ ∀ j, j < k → mayE (l j) = true) ∧ Ext w wr) (fun i _ => (5 - intOf i).toNat)
    case atStart => exact ⟨0, by omega, rfl, Lib.hid ⟨⟨fun j hj => absurd hj (by omega), fun j k hj => absurd hj (by omega)⟩, fun j hj => absurd hj (by omega)⟩, HE.out⟩
    case round =>
      clear HE HT
      obtain ⟨k, hk, rfl, I, hE⟩ := hrel
      have HE := Lib.hid hE
      clear hE
      by_cases hlt : k < 5
      · have hkz : (k : Int) < 5 := by omega
        clear hk
        have hr := hrx _ HE.out k hlt
        have hm := fun w => rmay12_c (l k) w
        cases hme : mayE (l k)
        · rw [hme] at hm
          clear hrx
          go_wp2_with ((refine wpList_load_rng (by rfl) 26 _ rfl rfl hr Tryd.underlying26 rfl (en_info _) ?_)); refine (hm _).mono ?_; rintro e w' ⟨rfl, hE⟩; (try replace hm := hm.ext hE); (try replace h1 := h1.ext hE); (try replace h5 := h5.ext hE); (try replace h7 := h7.ext hE); (try replace HT := Lib.hid (HT.out.ext hE)); (try replace HE := Lib.hid (HE.out.trans hE))
          clear hE hm hr
          go_wp2
          go_ret
          exact ⟨rfl, HE.out⟩
        rw [hme] at hm
        have hv0 := fun (W : World) h => rng_v (hrx W h k hlt)
        cases hv : (l k).v
        · simp only [hv] at hv0
          clear hrx
          go_wp2_with ((refine wpList_load_rng (by rfl) 26 _ rfl rfl hr Tryd.underlying26 rfl (en_info _) ?_)); refine (hm _).mono ?_; rintro e w' ⟨rfl, hE⟩; (try replace hm := hm.ext hE); (try replace h1 := h1.ext hE); (try replace h5 := h5.ext hE); (try replace h7 := h7.ext hE); (try replace HT := Lib.hid (HT.out.ext hE)); (try replace HE := Lib.hid (HE.out.trans hE))
          clear hE hm hr
          have x0 := hv0 _ HE.out
          go_wp2
          go_ret
          exact ⟨rfl, HE.out⟩
        simp only [hv] at hv0
        have HK := Lib.hid (And.intro hme hv)
        clear hme hv
        go_wp2_with ((refine wpList_load_rng (by rfl) 26 _ rfl rfl hr Tryd.underlying26 rfl (en_info _) ?_)); refine (hm _).mono ?_; rintro e w' ⟨rfl, hE⟩; (try replace hm := hm.ext hE); (try replace h1 := h1.ext hE); (try replace h5 := h5.ext hE); (try replace h7 := h7.ext hE); (try replace HT := Lib.hid (HT.out.ext hE)); (try replace HE := Lib.hid (HE.out.trans hE))
        clear hE hm hr
        have x0 := hv0 _ HE.out
        clear hv0
        go_wp2
        clear x0
        go_loopw [4] (fun i wr => ∃ q : Nat, q ≤ k ∧ i = .int .i64 q ∧ Hid (∀ y, y < q → sameE (l k) (l y) = false) ∧ Ext w wr) (fun i _ => (k - intOf i).toNat)
        case atStart => exact ⟨0, by omega, rfl, Lib.hid (fun y hy => absurd hy (by omega)), HE.out⟩
        case round =>
          clear HE
          obtain ⟨q, hq, rfl, J, hE⟩ := hrel
          have HE := Lib.hid hE
          clear hE
          by_cases hql : q < k
          · have hqz : (q : Int) < 5 := by omega
            have hq5 : q < 5 := by omega
            have hsm := fun w => same13_c (l k) (l q) w
            have JK : sameE (l k) (l q) = false → Hid (∀ y, y < q + 1 → sameE (l k) (l y) = false) := fun h => Lib.hid fun y hy => by
              rcases Nat.lt_or_ge y q with h1 | h1
              · exact J.out y h1
              · obtain rfl : y = q := by omega
                exact h
            clear J hq
            generalize sameE (l k) (l q) = S at *
            go_wp2_with fail
            (try replace hm := Blk.drew hm); (try replace h1 := Blk.drew h1); (try replace h5 := Blk.drew h5); (try replace h7 := Blk.drew h7); replace HE := Lib.hid HE.out.drew
            refine wp_region_seq [(0, false), (1, false), (2, false), (3, false), (4, false), (5, false), (6, false), (7, false), (8, true)] Ext (by kernel_rfl) (by kernel_rfl) Ext.refl (fun _ _ _ => Ext.trans) ?_; simp only [List.map, nth_z, nth_s]
            (try simp only [Act.put, List.setIfInBounds_toArray, List.set_cons_zero, List.set_cons_succ])
            (repeat (first | (refine seq_skip (by rfl) ?_; intro K hK; simp only [Act.put, List.setIfInBounds_toArray, List.set_cons_zero, List.set_cons_succ]; refine hK _ ?_; clear hK K) | (refine seq_skipc (by rfl) ?_; intro K hK; simp only [Act.put, List.setIfInBounds_toArray, List.set_cons_zero, List.set_cons_succ]; refine hK _ ?_; clear hK K) | (refine seq_read (by rfl) (by rfl) ?_; intro K hK; go_big_quiet_op; first | go_big_quiet_on | (refine ⟨_, fun _ _ => rfl, ?_⟩; go_big_quiet_on))))
            refine seq_load_rng rfl rfl ((fun x hx => hrx x (HE.out.trans hx) k hlt)) rfl Tryd.underlying26 (en_info _) (by rfl) ?_; intro K hK; simp only [Act.put, List.setIfInBounds_toArray, List.set_cons_zero, List.set_cons_succ]; refine hK _ ?_; clear hK K
            (repeat (first | (refine seq_skip (by rfl) ?_; intro K hK; simp only [Act.put, List.setIfInBounds_toArray, List.set_cons_zero, List.set_cons_succ]; refine hK _ ?_; clear hK K) | (refine seq_skipc (by rfl) ?_; intro K hK; simp only [Act.put, List.setIfInBounds_toArray, List.set_cons_zero, List.set_cons_succ]; refine hK _ ?_; clear hK K) | (refine seq_read (by rfl) (by rfl) ?_; intro K hK; go_big_quiet_op; first | go_big_quiet_on | (refine ⟨_, fun _ _ => rfl, ?_⟩; go_big_quiet_on))))
            refine seq_load_rng rfl rfl ((fun x hx => hrx x (HE.out.trans hx) q hq5)) rfl Tryd.underlying26 (en_info _) (by rfl) ?_; intro K hK; simp only [Act.put, List.setIfInBounds_toArray, List.set_cons_zero, List.set_cons_succ]; refine hK _ ?_; clear hK K
            refine seq_call (hsm _) rfl Tryd.func18 (by kernel_rfl) (by kernel_rfl) (by rfl) (by rfl) ?_; intro K hK; rintro e w' ⟨rfl, hE⟩; refine ⟨_, rfl, hE, ?_⟩; simp only [Act.put, List.setIfInBounds_toArray, List.set_cons_zero, List.set_cons_succ]; refine hK _ _ ?_; clear hK K; (try replace hm := hm.ext hE); (try replace h1 := h1.ext hE); (try replace h5 := h5.ext hE); (try replace h7 := h7.ext hE); (try replace HT := Lib.hid (HT.out.ext hE)); (try replace HE := Lib.hid (HE.out.trans hE))
            clear hE hsm
            refine seq_done ?_
            clear hrx
            cases S
            · have J2 := JK rfl
              clear JK
              go_wp2
              go_roundw
              case rel => exact ⟨q + 1, by omega, by go_num, J2, HE.out⟩
              case measure => simp [intOf]; omega
            · clear JK
              go_wp2
              go_ret
              exact ⟨rfl, HE.out⟩
          · obtain rfl : q = k := by omega
            have I2 : Hid (Unl l (q + 1) ∧ ∀ j, j < q + 1 → mayE (l j) = true) := Lib.hid ⟨unl_next I.out.1 HK.out.2 J.out, fun j hj => by
              rcases Nat.lt_or_ge j q with h1 | h1
              · exact I.out.2 j h1
              · obtain rfl : j = q := by omega
                exact HK.out.1⟩
            clear I J hq HK hrx
            go_wp2
            go_roundw
            case rel => exact ⟨q + 1, by omega, by go_num, I2, HE.out⟩
            case measure => simp [intOf]; omega
      · obtain rfl : k = 5 := by omega
        have hU := I.out.1
        clear I hk hlt
        have h5 := Blk.new wr 29 (stC s0)
        have HE2 := Lib.hid (HE.out.alloc (.cells (stC s0) 29))
        go_wp2_with (first | (refine wpList_build_as (by rfl) rfl (s0_build) ?_) | (refine wpList_store_new rfl 29 _ _ rfl (stC _) _ _ rfl rfl (st_info _) (by simp [stC_size]) (stC_one _) ?_))
        have hg5 := HE.out.size
        generalize wr.heap.size = g5 at *
        generalize wr.alloc (.cells (stC s0) 29) = W1 at *
        clear HE
        go_loopw [6] (fun i wr => ∃ k : Nat, k ≤ 4 ∧ i = .int .i64 k ∧ Blk wr g5 29 (stC (flS l k)) ∧ Ext w wr) (fun i _ => (4 - intOf i).toNat)
        case atStart => exact ⟨0, by omega, rfl, by rw [flS_0]; exact h5, HE2.out⟩
        case round =>
          clear h5 HE2
          obtain ⟨k, hk, rfl, h5, hE⟩ := hrel
          have HE := Lib.hid hE
          clear hE
          by_cases hlt : k < 4
          · have hkz : (k : Int) < 5 := by omega
            have hk5 : k < 5 := by omega
            clear hk
            have cpt := fun w h => put13_c (flS l k) (flS_lt l k) (l k) (-1) w h
            rw [fl_put (unl_le hU (by omega)) hlt, fl_way (unl_le hU (by omega)) hlt] at cpt
            go_wp2_with fail
            replace h5 := Blk.drew h5
            replace HE := Lib.hid HE.out.drew
            refine wp_region_fork [(0, false), (1, false), (2, false), (3, false), (4, false)] 5 [(6, false), (7, false), (8, false), (9, true), (10, true), (11, false)] 9 [(5, true), (6, false), (7, false), (8, false), (10, true), (11, false)] (Below wr.drew.heap.size) (by kernel_rfl) (by kernel_rfl) (Below.refl _) (fun _ _ _ => Below.trans) ?_
            simp only [List.map, nth_z, nth_s]
            have hs0 : wr.drew.heap.size ≤ wr.drew.heap.size := Nat.le_refl _
            have l5 := h5.lt
            have hbB : b < wr.drew.heap.size := rng_lt (hrx _ HE.out k hk5)
            generalize hBB : wr.drew.heap.size = B at l5 hs0 hbB ⊢
            rw [← hBB] at hs0
            generalize wr.drew = wd at *
            rw [hBB] at hs0
            replace hs0 : B ≤ wd.heap.size := by omega
            clear hBB
            apply cut_fork (fun g W => Blk W g5 29 (stC (flS l k)) ∧ Blk W g 29 (stC (flS l (k + 1))) ∧ g5 < g ∧ Ext w W)
            case h =>
              intro key
              refine seq_load rfl rfl (fun x hx => Blk.lower (h5) hx (by omega)) rfl Tryd.underlying29 (by kernel_rfl) (by rfl) ?_; intro K hK; simp only [Act.put, List.setIfInBounds_toArray, List.set_cons_zero, List.set_cons_succ]; refine hK _ ?_; clear hK K
              (repeat (first | (refine seq_skip (by rfl) ?_; intro K hK; simp only [Act.put, List.setIfInBounds_toArray, List.set_cons_zero, List.set_cons_succ]; refine hK _ ?_; clear hK K) | (refine seq_skipc (by rfl) ?_; intro K hK; simp only [Act.put, List.setIfInBounds_toArray, List.set_cons_zero, List.set_cons_succ]; refine hK _ ?_; clear hK K) | (refine seq_read (by rfl) (by rfl) ?_; intro K hK; go_big_quiet_op; first | go_big_quiet_on | (refine ⟨_, fun _ _ => rfl, ?_⟩; go_big_quiet_on))))
              refine seq_load_rng rfl rfl ((fun x hx => rng_below hx hbB (hrx _ HE.out k hk5))) rfl Tryd.underlying26 (en_info _) (by rfl) ?_; intro K hK; simp only [Act.put, List.setIfInBounds_toArray, List.set_cons_zero, List.set_cons_succ]; refine hK _ ?_; clear hK K
              refine seq_done ?_
              refine ⟨?_, ?_⟩
              · skip
                refine seq_call (cpt _ (hT.ext HE.out)) rfl Tryd.func20 (by kernel_rfl) (by kernel_rfl) (by rfl) (by rfl) ?_; intro K hK; rintro e w' ⟨rfl, hE⟩; refine ⟨_, rfl, (Below.mono hE hs0), ?_⟩; simp only [Act.put, List.setIfInBounds_toArray, List.set_cons_zero, List.set_cons_succ]; refine hK _ _ ?_; clear hK K
                replace h5 := h5.ext hE
                replace HE := Lib.hid (HE.out.trans hE)
                replace hs0 := Nat.le_trans hs0 hE.size
                try replace hn := hn.ext hE
                clear hE
                (repeat (first | (refine seq_skip (by rfl) ?_; intro K hK; simp only [Act.put, List.setIfInBounds_toArray, List.set_cons_zero, List.set_cons_succ]; refine hK _ ?_; clear hK K) | (refine seq_skipc (by rfl) ?_; intro K hK; simp only [Act.put, List.setIfInBounds_toArray, List.set_cons_zero, List.set_cons_succ]; refine hK _ ?_; clear hK K) | (refine seq_read (by rfl) (by rfl) ?_; intro K hK; go_big_quiet_op; first | go_big_quiet_on | (refine ⟨_, fun _ _ => rfl, ?_⟩; go_big_quiet_on))))
                have hn := Blk.new w' 29 #[.bool false, .int .u64 0, .bool false, .int .i64 0, .int .u64 0, .int .u64 0, .bool false, .bool false, .bool false, .bool false, .bool false, .bool false, .int .u64 0, .bool false, .int .i64 0, .int .u64 0, .int .u64 0, .bool false, .bool false, .bool false, .bool false, .bool false, .bool false, .int .u64 0, .bool false, .int .i64 0, .int .u64 0, .int .u64 0, .bool false, .bool false, .bool false, .bool false, .bool false, .bool false, .int .u64 0, .bool false, .int .i64 0, .int .u64 0, .int .u64 0, .bool false, .bool false, .bool false, .bool false, .bool false, .int .u8 0]
                have hgB : B ≤ w'.heap.size := hs0
                refine seq_run (.pointer (some ⟨w'.heap.size, 0, none⟩)) (w'.alloc (.cells #[.bool false, .int .u64 0, .bool false, .int .i64 0, .int .u64 0, .int .u64 0, .bool false, .bool false, .bool false, .bool false, .bool false, .bool false, .int .u64 0, .bool false, .int .i64 0, .int .u64 0, .int .u64 0, .bool false, .bool false, .bool false, .bool false, .bool false, .bool false, .int .u64 0, .bool false, .int .i64 0, .int .u64 0, .int .u64 0, .bool false, .bool false, .bool false, .bool false, .bool false, .bool false, .int .u64 0, .bool false, .int .i64 0, .int .u64 0, .int .u64 0, .bool false, .bool false, .bool false, .bool false, .bool false, .int .u8 0] 29)) (by rfl) ?_ ((Below.refl _ _).alloc hs0 _) ?_; (simp [go_sem, execOp, Act.eval]); intro K hK; simp only [Act.put, List.setIfInBounds_toArray, List.set_cons_zero, List.set_cons_succ]; refine hK _ _ ?_; clear hK K
                have hE := (Ext.refl w').alloc (.cells #[.bool false, .int .u64 0, .bool false, .int .i64 0, .int .u64 0, .int .u64 0, .bool false, .bool false, .bool false, .bool false, .bool false, .bool false, .int .u64 0, .bool false, .int .i64 0, .int .u64 0, .int .u64 0, .bool false, .bool false, .bool false, .bool false, .bool false, .bool false, .int .u64 0, .bool false, .int .i64 0, .int .u64 0, .int .u64 0, .bool false, .bool false, .bool false, .bool false, .bool false, .bool false, .int .u64 0, .bool false, .int .i64 0, .int .u64 0, .int .u64 0, .bool false, .bool false, .bool false, .bool false, .bool false, .int .u8 0] 29)
                have hgw : w.heap.size ≤ w'.heap.size := HE.out.size
                replace h5 := h5.ext hE
                replace HE := Lib.hid (HE.out.trans hE)
                replace hs0 := Nat.le_trans hs0 hE.size
                clear hE
                generalize w'.alloc (.cells #[.bool false, .int .u64 0, .bool false, .int .i64 0, .int .u64 0, .int .u64 0, .bool false, .bool false, .bool false, .bool false, .bool false, .bool false, .int .u64 0, .bool false, .int .i64 0, .int .u64 0, .int .u64 0, .bool false, .bool false, .bool false, .bool false, .bool false, .bool false, .int .u64 0, .bool false, .int .i64 0, .int .u64 0, .int .u64 0, .bool false, .bool false, .bool false, .bool false, .bool false, .bool false, .int .u64 0, .bool false, .int .i64 0, .int .u64 0, .int .u64 0, .bool false, .bool false, .bool false, .bool false, .bool false, .int .u8 0] 29) = WA at *
                generalize w'.heap.size = gq at *
                (repeat (first | (refine seq_skip (by rfl) ?_; intro K hK; simp only [Act.put, List.setIfInBounds_toArray, List.set_cons_zero, List.set_cons_succ]; refine hK _ ?_; clear hK K) | (refine seq_skipc (by rfl) ?_; intro K hK; simp only [Act.put, List.setIfInBounds_toArray, List.set_cons_zero, List.set_cons_succ]; refine hK _ ?_; clear hK K) | (refine seq_read (by rfl) (by rfl) ?_; intro K hK; go_big_quiet_op; first | go_big_quiet_on | (refine ⟨_, fun _ _ => rfl, ?_⟩; go_big_quiet_on))))
                refine seq_store_row rfl rfl rfl (hn) (st_info _) (by simp [stC_size]) (stC_one _) (by rfl) ((below_row (Below.refl _ _) hgB _)) ?_; intro K hK; simp only [Act.put, List.setIfInBounds_toArray, List.set_cons_zero, List.set_cons_succ]; refine hK _ _ ?_; clear hK K
                (repeat (first | (refine seq_skip (by rfl) ?_; intro K hK; simp only [Act.put, List.setIfInBounds_toArray, List.set_cons_zero, List.set_cons_succ]; refine hK _ ?_; clear hK K) | (refine seq_skipc (by rfl) ?_; intro K hK; simp only [Act.put, List.setIfInBounds_toArray, List.set_cons_zero, List.set_cons_succ]; refine hK _ ?_; clear hK K) | (refine seq_read (by rfl) (by rfl) ?_; intro K hK; go_big_quiet_op; first | go_big_quiet_on | (refine ⟨_, fun _ _ => rfl, ?_⟩; go_big_quiet_on))))
                refine seq_done ?_
                have hm := hn.row (stC (flS l (k + 1)))
                replace h5 := h5.apart (k := gq) (by omega) (stC (flS l (k + 1)))
                replace HE := Lib.hid (Ext.row HE.out hgw (stC (flS l (k + 1))))
                generalize WA.setRow gq (stC (flS l (k + 1))) = WF at *
                exact key gq WF ⟨h5, hm, (by omega), HE.out⟩
              · skip
                have hn := Blk.new wd 29 #[.bool false, .int .u64 0, .bool false, .int .i64 0, .int .u64 0, .int .u64 0, .bool false, .bool false, .bool false, .bool false, .bool false, .bool false, .int .u64 0, .bool false, .int .i64 0, .int .u64 0, .int .u64 0, .bool false, .bool false, .bool false, .bool false, .bool false, .bool false, .int .u64 0, .bool false, .int .i64 0, .int .u64 0, .int .u64 0, .bool false, .bool false, .bool false, .bool false, .bool false, .bool false, .int .u64 0, .bool false, .int .i64 0, .int .u64 0, .int .u64 0, .bool false, .bool false, .bool false, .bool false, .bool false, .int .u8 0]
                have hgB : B ≤ wd.heap.size := hs0
                refine seq_run (.pointer (some ⟨wd.heap.size, 0, none⟩)) (wd.alloc (.cells #[.bool false, .int .u64 0, .bool false, .int .i64 0, .int .u64 0, .int .u64 0, .bool false, .bool false, .bool false, .bool false, .bool false, .bool false, .int .u64 0, .bool false, .int .i64 0, .int .u64 0, .int .u64 0, .bool false, .bool false, .bool false, .bool false, .bool false, .bool false, .int .u64 0, .bool false, .int .i64 0, .int .u64 0, .int .u64 0, .bool false, .bool false, .bool false, .bool false, .bool false, .bool false, .int .u64 0, .bool false, .int .i64 0, .int .u64 0, .int .u64 0, .bool false, .bool false, .bool false, .bool false, .bool false, .int .u8 0] 29)) (by rfl) ?_ ((Below.refl _ _).alloc hs0 _) ?_; (simp [go_sem, execOp, Act.eval]); intro K hK; simp only [Act.put, List.setIfInBounds_toArray, List.set_cons_zero, List.set_cons_succ]; refine hK _ _ ?_; clear hK K
                have hE := (Ext.refl wd).alloc (.cells #[.bool false, .int .u64 0, .bool false, .int .i64 0, .int .u64 0, .int .u64 0, .bool false, .bool false, .bool false, .bool false, .bool false, .bool false, .int .u64 0, .bool false, .int .i64 0, .int .u64 0, .int .u64 0, .bool false, .bool false, .bool false, .bool false, .bool false, .bool false, .int .u64 0, .bool false, .int .i64 0, .int .u64 0, .int .u64 0, .bool false, .bool false, .bool false, .bool false, .bool false, .bool false, .int .u64 0, .bool false, .int .i64 0, .int .u64 0, .int .u64 0, .bool false, .bool false, .bool false, .bool false, .bool false, .int .u8 0] 29)
                have hgw : w.heap.size ≤ wd.heap.size := HE.out.size
                replace h5 := h5.ext hE
                replace HE := Lib.hid (HE.out.trans hE)
                replace hs0 := Nat.le_trans hs0 hE.size
                clear hE
                generalize wd.alloc (.cells #[.bool false, .int .u64 0, .bool false, .int .i64 0, .int .u64 0, .int .u64 0, .bool false, .bool false, .bool false, .bool false, .bool false, .bool false, .int .u64 0, .bool false, .int .i64 0, .int .u64 0, .int .u64 0, .bool false, .bool false, .bool false, .bool false, .bool false, .bool false, .int .u64 0, .bool false, .int .i64 0, .int .u64 0, .int .u64 0, .bool false, .bool false, .bool false, .bool false, .bool false, .bool false, .int .u64 0, .bool false, .int .i64 0, .int .u64 0, .int .u64 0, .bool false, .bool false, .bool false, .bool false, .bool false, .int .u8 0] 29) = WA at *
                generalize wd.heap.size = gq at *
                refine seq_call (cpt _ (hT.ext HE.out)) rfl Tryd.func20 (by kernel_rfl) (by kernel_rfl) (by rfl) (by rfl) ?_; intro K hK; rintro e w' ⟨rfl, hE⟩; refine ⟨_, rfl, (Below.mono hE hs0), ?_⟩; simp only [Act.put, List.setIfInBounds_toArray, List.set_cons_zero, List.set_cons_succ]; refine hK _ _ ?_; clear hK K
                replace h5 := h5.ext hE
                replace HE := Lib.hid (HE.out.trans hE)
                replace hs0 := Nat.le_trans hs0 hE.size
                try replace hn := hn.ext hE
                clear hE
                (repeat (first | (refine seq_skip (by rfl) ?_; intro K hK; simp only [Act.put, List.setIfInBounds_toArray, List.set_cons_zero, List.set_cons_succ]; refine hK _ ?_; clear hK K) | (refine seq_skipc (by rfl) ?_; intro K hK; simp only [Act.put, List.setIfInBounds_toArray, List.set_cons_zero, List.set_cons_succ]; refine hK _ ?_; clear hK K) | (refine seq_read (by rfl) (by rfl) ?_; intro K hK; go_big_quiet_op; first | go_big_quiet_on | (refine ⟨_, fun _ _ => rfl, ?_⟩; go_big_quiet_on))))
                refine seq_store_row rfl rfl rfl (hn) (st_info _) (by simp [stC_size]) (stC_one _) (by rfl) ((below_row (Below.refl _ _) hgB _)) ?_; intro K hK; simp only [Act.put, List.setIfInBounds_toArray, List.set_cons_zero, List.set_cons_succ]; refine hK _ _ ?_; clear hK K
                (repeat (first | (refine seq_skip (by rfl) ?_; intro K hK; simp only [Act.put, List.setIfInBounds_toArray, List.set_cons_zero, List.set_cons_succ]; refine hK _ ?_; clear hK K) | (refine seq_skipc (by rfl) ?_; intro K hK; simp only [Act.put, List.setIfInBounds_toArray, List.set_cons_zero, List.set_cons_succ]; refine hK _ ?_; clear hK K) | (refine seq_read (by rfl) (by rfl) ?_; intro K hK; go_big_quiet_op; first | go_big_quiet_on | (refine ⟨_, fun _ _ => rfl, ?_⟩; go_big_quiet_on))))
                refine seq_done ?_
                have hm := hn.row (stC (flS l (k + 1)))
                replace h5 := h5.apart (k := gq) (by omega) (stC (flS l (k + 1)))
                replace HE := Lib.hid (Ext.row HE.out hgw (stC (flS l (k + 1))))
                generalize w'.setRow gq (stC (flS l (k + 1))) = WF at *
                exact key gq WF ⟨h5, hm, (by omega), HE.out⟩
            intro g7 WN hkk
            clear h5 HE l5 hbB hs0 cpt
            obtain ⟨h5, h7, d57, hE⟩ := hkk
            have HE := Lib.hid hE
            clear hE
            have h5b := h5.row (stC (flS l (k + 1)))
            have HE2 := Lib.hid (HE.out.row hg5 (stC (flS l (k + 1))))
            clear HE hrx
            go_wp2_with (first | (refine wpList_load_blk (by rfl) 29 _ rfl rfl h7 Tryd.underlying29 rfl (by kernel_rfl) ?_) | (refine wpList_store_row rfl 29 _ _ rfl _ (stC _) rfl rfl _ _ h5 (st_info _) (by simp [stC_size]) (stC_one _) ?_))
            go_roundw
            case rel => exact ⟨k + 1, by omega, by go_num, h5b, HE2.out⟩
            case measure => simp [intOf]; omega
          · obtain rfl : k = 4 := by omega
            clear hk hlt
            have cpt := fun w h => put13_c (flS l 4) (flS_lt l 4) (l 4) (-1) w h
            obtain ⟨q, e0', e1, e2, e3⟩ := fl_last hU
            rw [q] at cpt
            clear q
            generalize putS (l 4) (-1) (flS l 4) = x at *
            have a0 := stC_at x (k := 0) (by decide)
            have a1 := stC_at x (k := 1) (by decide)
            have a2 := stC_at x (k := 2) (by decide)
            have a3 := stC_at x (k := 3) (by decide)
            rw [e0'] at a0
            rw [e1] at a1
            rw [e2] at a2
            rw [e3] at a3
            simp only [Nat.reduceMul] at a0 a1 a2 a3
            have R1 := fun (W : World) h => hrx W h 1 (by decide)
            have R2 := fun (W : World) h => hrx W h 2 (by decide)
            have R3 := fun (W : World) h => hrx W h 3 (by decide)
            have R4 := fun (W : World) h => hrx W h 4 (by decide)
            simp only [Nat.reduceMul] at R1 R2 R3 R4
            clear e0' e1 e2 e3 hU
            go_wp2_with fail
            replace h5 := Blk.drew h5
            replace HE := Lib.hid HE.out.drew
            refine wp_region_fork [(0, false), (1, false), (2, false), (3, false)] 4 [(5, false), (6, false), (7, false), (8, true), (9, true), (10, false)] 8 [(4, true), (5, false), (6, false), (7, false), (9, true), (10, false)] (Below wr.drew.heap.size) (by kernel_rfl) (by kernel_rfl) (Below.refl _) (fun _ _ _ => Below.trans) ?_
            simp only [List.map, nth_z, nth_s]
            have hs0 : wr.drew.heap.size ≤ wr.drew.heap.size := Nat.le_refl _
            have l5 := h5.lt
            have hbB : b < wr.drew.heap.size := rng_lt (hrx _ HE.out 4 (by decide))
            generalize hBB : wr.drew.heap.size = B at l5 hs0 hbB ⊢
            rw [← hBB] at hs0
            generalize wr.drew = wd at *
            rw [hBB] at hs0
            replace hs0 : B ≤ wd.heap.size := by omega
            clear hBB
            apply cut_fork (fun g W => Blk W g5 29 (stC (flS l 4)) ∧ Blk W g 29 (stC x) ∧ g5 < g ∧ Ext w W)
            case h =>
              intro key
              refine seq_load rfl rfl (fun x hx => Blk.lower (h5) hx (by omega)) rfl Tryd.underlying29 (by kernel_rfl) (by rfl) ?_; intro K hK; simp only [Act.put, List.setIfInBounds_toArray, List.set_cons_zero, List.set_cons_succ]; refine hK _ ?_; clear hK K
              (repeat (first | (refine seq_skip (by rfl) ?_; intro K hK; simp only [Act.put, List.setIfInBounds_toArray, List.set_cons_zero, List.set_cons_succ]; refine hK _ ?_; clear hK K) | (refine seq_skipc (by rfl) ?_; intro K hK; simp only [Act.put, List.setIfInBounds_toArray, List.set_cons_zero, List.set_cons_succ]; refine hK _ ?_; clear hK K) | (refine seq_read (by rfl) (by rfl) ?_; intro K hK; go_big_quiet_op; first | go_big_quiet_on | (refine ⟨_, fun _ _ => rfl, ?_⟩; go_big_quiet_on))))
              refine seq_load_rng rfl rfl ((fun x hx => rng_below hx hbB (R4 _ HE.out))) rfl Tryd.underlying26 (en_info _) (by rfl) ?_; intro K hK; simp only [Act.put, List.setIfInBounds_toArray, List.set_cons_zero, List.set_cons_succ]; refine hK _ ?_; clear hK K
              refine seq_done ?_
              refine ⟨?_, ?_⟩
              · skip
                refine seq_call (cpt _ (hT.ext HE.out)) rfl Tryd.func20 (by kernel_rfl) (by kernel_rfl) (by rfl) (by rfl) ?_; intro K hK; rintro e w' ⟨rfl, hE⟩; refine ⟨_, rfl, (Below.mono hE hs0), ?_⟩; simp only [Act.put, List.setIfInBounds_toArray, List.set_cons_zero, List.set_cons_succ]; refine hK _ _ ?_; clear hK K
                replace h5 := h5.ext hE
                replace HE := Lib.hid (HE.out.trans hE)
                replace hs0 := Nat.le_trans hs0 hE.size
                try replace hn := hn.ext hE
                clear hE
                (repeat (first | (refine seq_skip (by rfl) ?_; intro K hK; simp only [Act.put, List.setIfInBounds_toArray, List.set_cons_zero, List.set_cons_succ]; refine hK _ ?_; clear hK K) | (refine seq_skipc (by rfl) ?_; intro K hK; simp only [Act.put, List.setIfInBounds_toArray, List.set_cons_zero, List.set_cons_succ]; refine hK _ ?_; clear hK K) | (refine seq_read (by rfl) (by rfl) ?_; intro K hK; go_big_quiet_op; first | go_big_quiet_on | (refine ⟨_, fun _ _ => rfl, ?_⟩; go_big_quiet_on))))
                have hn := Blk.new w' 29 #[.bool false, .int .u64 0, .bool false, .int .i64 0, .int .u64 0, .int .u64 0, .bool false, .bool false, .bool false, .bool false, .bool false, .bool false, .int .u64 0, .bool false, .int .i64 0, .int .u64 0, .int .u64 0, .bool false, .bool false, .bool false, .bool false, .bool false, .bool false, .int .u64 0, .bool false, .int .i64 0, .int .u64 0, .int .u64 0, .bool false, .bool false, .bool false, .bool false, .bool false, .bool false, .int .u64 0, .bool false, .int .i64 0, .int .u64 0, .int .u64 0, .bool false, .bool false, .bool false, .bool false, .bool false, .int .u8 0]
                have hgB : B ≤ w'.heap.size := hs0
                refine seq_run (.pointer (some ⟨w'.heap.size, 0, none⟩)) (w'.alloc (.cells #[.bool false, .int .u64 0, .bool false, .int .i64 0, .int .u64 0, .int .u64 0, .bool false, .bool false, .bool false, .bool false, .bool false, .bool false, .int .u64 0, .bool false, .int .i64 0, .int .u64 0, .int .u64 0, .bool false, .bool false, .bool false, .bool false, .bool false, .bool false, .int .u64 0, .bool false, .int .i64 0, .int .u64 0, .int .u64 0, .bool false, .bool false, .bool false, .bool false, .bool false, .bool false, .int .u64 0, .bool false, .int .i64 0, .int .u64 0, .int .u64 0, .bool false, .bool false, .bool false, .bool false, .bool false, .int .u8 0] 29)) (by rfl) ?_ ((Below.refl _ _).alloc hs0 _) ?_; (simp [go_sem, execOp, Act.eval]); intro K hK; simp only [Act.put, List.setIfInBounds_toArray, List.set_cons_zero, List.set_cons_succ]; refine hK _ _ ?_; clear hK K
                have hE := (Ext.refl w').alloc (.cells #[.bool false, .int .u64 0, .bool false, .int .i64 0, .int .u64 0, .int .u64 0, .bool false, .bool false, .bool false, .bool false, .bool false, .bool false, .int .u64 0, .bool false, .int .i64 0, .int .u64 0, .int .u64 0, .bool false, .bool false, .bool false, .bool false, .bool false, .bool false, .int .u64 0, .bool false, .int .i64 0, .int .u64 0, .int .u64 0, .bool false, .bool false, .bool false, .bool false, .bool false, .bool false, .int .u64 0, .bool false, .int .i64 0, .int .u64 0, .int .u64 0, .bool false, .bool false, .bool false, .bool false, .bool false, .int .u8 0] 29)
                have hgw : w.heap.size ≤ w'.heap.size := HE.out.size
                replace h5 := h5.ext hE
                replace HE := Lib.hid (HE.out.trans hE)
                replace hs0 := Nat.le_trans hs0 hE.size
                clear hE
                generalize w'.alloc (.cells #[.bool false, .int .u64 0, .bool false, .int .i64 0, .int .u64 0, .int .u64 0, .bool false, .bool false, .bool false, .bool false, .bool false, .bool false, .int .u64 0, .bool false, .int .i64 0, .int .u64 0, .int .u64 0, .bool false, .bool false, .bool false, .bool false, .bool false, .bool false, .int .u64 0, .bool false, .int .i64 0, .int .u64 0, .int .u64 0, .bool false, .bool false, .bool false, .bool false, .bool false, .bool false, .int .u64 0, .bool false, .int .i64 0, .int .u64 0, .int .u64 0, .bool false, .bool false, .bool false, .bool false, .bool false, .int .u8 0] 29) = WA at *
                generalize w'.heap.size = gq at *
                (repeat (first | (refine seq_skip (by rfl) ?_; intro K hK; simp only [Act.put, List.setIfInBounds_toArray, List.set_cons_zero, List.set_cons_succ]; refine hK _ ?_; clear hK K) | (refine seq_skipc (by rfl) ?_; intro K hK; simp only [Act.put, List.setIfInBounds_toArray, List.set_cons_zero, List.set_cons_succ]; refine hK _ ?_; clear hK K) | (refine seq_read (by rfl) (by rfl) ?_; intro K hK; go_big_quiet_op; first | go_big_quiet_on | (refine ⟨_, fun _ _ => rfl, ?_⟩; go_big_quiet_on))))
                refine seq_store_row rfl rfl rfl (hn) (st_info _) (by simp [stC_size]) (stC_one _) (by rfl) ((below_row (Below.refl _ _) hgB _)) ?_; intro K hK; simp only [Act.put, List.setIfInBounds_toArray, List.set_cons_zero, List.set_cons_succ]; refine hK _ _ ?_; clear hK K
                (repeat (first | (refine seq_skip (by rfl) ?_; intro K hK; simp only [Act.put, List.setIfInBounds_toArray, List.set_cons_zero, List.set_cons_succ]; refine hK _ ?_; clear hK K) | (refine seq_skipc (by rfl) ?_; intro K hK; simp only [Act.put, List.setIfInBounds_toArray, List.set_cons_zero, List.set_cons_succ]; refine hK _ ?_; clear hK K) | (refine seq_read (by rfl) (by rfl) ?_; intro K hK; go_big_quiet_op; first | go_big_quiet_on | (refine ⟨_, fun _ _ => rfl, ?_⟩; go_big_quiet_on))))
                refine seq_done ?_
                have hm := hn.row (stC x)
                replace h5 := h5.apart (k := gq) (by omega) (stC x)
                replace HE := Lib.hid (Ext.row HE.out hgw (stC x))
                generalize WA.setRow gq (stC x) = WF at *
                exact key gq WF ⟨h5, hm, (by omega), HE.out⟩
              · skip
                have hn := Blk.new wd 29 #[.bool false, .int .u64 0, .bool false, .int .i64 0, .int .u64 0, .int .u64 0, .bool false, .bool false, .bool false, .bool false, .bool false, .bool false, .int .u64 0, .bool false, .int .i64 0, .int .u64 0, .int .u64 0, .bool false, .bool false, .bool false, .bool false, .bool false, .bool false, .int .u64 0, .bool false, .int .i64 0, .int .u64 0, .int .u64 0, .bool false, .bool false, .bool false, .bool false, .bool false, .bool false, .int .u64 0, .bool false, .int .i64 0, .int .u64 0, .int .u64 0, .bool false, .bool false, .bool false, .bool false, .bool false, .int .u8 0]
                have hgB : B ≤ wd.heap.size := hs0
                refine seq_run (.pointer (some ⟨wd.heap.size, 0, none⟩)) (wd.alloc (.cells #[.bool false, .int .u64 0, .bool false, .int .i64 0, .int .u64 0, .int .u64 0, .bool false, .bool false, .bool false, .bool false, .bool false, .bool false, .int .u64 0, .bool false, .int .i64 0, .int .u64 0, .int .u64 0, .bool false, .bool false, .bool false, .bool false, .bool false, .bool false, .int .u64 0, .bool false, .int .i64 0, .int .u64 0, .int .u64 0, .bool false, .bool false, .bool false, .bool false, .bool false, .bool false, .int .u64 0, .bool false, .int .i64 0, .int .u64 0, .int .u64 0, .bool false, .bool false, .bool false, .bool false, .bool false, .int .u8 0] 29)) (by rfl) ?_ ((Below.refl _ _).alloc hs0 _) ?_; (simp [go_sem, execOp, Act.eval]); intro K hK; simp only [Act.put, List.setIfInBounds_toArray, List.set_cons_zero, List.set_cons_succ]; refine hK _ _ ?_; clear hK K
                have hE := (Ext.refl wd).alloc (.cells #[.bool false, .int .u64 0, .bool false, .int .i64 0, .int .u64 0, .int .u64 0, .bool false, .bool false, .bool false, .bool false, .bool false, .bool false, .int .u64 0, .bool false, .int .i64 0, .int .u64 0, .int .u64 0, .bool false, .bool false, .bool false, .bool false, .bool false, .bool false, .int .u64 0, .bool false, .int .i64 0, .int .u64 0, .int .u64 0, .bool false, .bool false, .bool false, .bool false, .bool false, .bool false, .int .u64 0, .bool false, .int .i64 0, .int .u64 0, .int .u64 0, .bool false, .bool false, .bool false, .bool false, .bool false, .int .u8 0] 29)
                have hgw : w.heap.size ≤ wd.heap.size := HE.out.size
                replace h5 := h5.ext hE
                replace HE := Lib.hid (HE.out.trans hE)
                replace hs0 := Nat.le_trans hs0 hE.size
                clear hE
                generalize wd.alloc (.cells #[.bool false, .int .u64 0, .bool false, .int .i64 0, .int .u64 0, .int .u64 0, .bool false, .bool false, .bool false, .bool false, .bool false, .bool false, .int .u64 0, .bool false, .int .i64 0, .int .u64 0, .int .u64 0, .bool false, .bool false, .bool false, .bool false, .bool false, .bool false, .int .u64 0, .bool false, .int .i64 0, .int .u64 0, .int .u64 0, .bool false, .bool false, .bool false, .bool false, .bool false, .bool false, .int .u64 0, .bool false, .int .i64 0, .int .u64 0, .int .u64 0, .bool false, .bool false, .bool false, .bool false, .bool false, .int .u8 0] 29) = WA at *
                generalize wd.heap.size = gq at *
                refine seq_call (cpt _ (hT.ext HE.out)) rfl Tryd.func20 (by kernel_rfl) (by kernel_rfl) (by rfl) (by rfl) ?_; intro K hK; rintro e w' ⟨rfl, hE⟩; refine ⟨_, rfl, (Below.mono hE hs0), ?_⟩; simp only [Act.put, List.setIfInBounds_toArray, List.set_cons_zero, List.set_cons_succ]; refine hK _ _ ?_; clear hK K
                replace h5 := h5.ext hE
                replace HE := Lib.hid (HE.out.trans hE)
                replace hs0 := Nat.le_trans hs0 hE.size
                try replace hn := hn.ext hE
                clear hE
                (repeat (first | (refine seq_skip (by rfl) ?_; intro K hK; simp only [Act.put, List.setIfInBounds_toArray, List.set_cons_zero, List.set_cons_succ]; refine hK _ ?_; clear hK K) | (refine seq_skipc (by rfl) ?_; intro K hK; simp only [Act.put, List.setIfInBounds_toArray, List.set_cons_zero, List.set_cons_succ]; refine hK _ ?_; clear hK K) | (refine seq_read (by rfl) (by rfl) ?_; intro K hK; go_big_quiet_op; first | go_big_quiet_on | (refine ⟨_, fun _ _ => rfl, ?_⟩; go_big_quiet_on))))
                refine seq_store_row rfl rfl rfl (hn) (st_info _) (by simp [stC_size]) (stC_one _) (by rfl) ((below_row (Below.refl _ _) hgB _)) ?_; intro K hK; simp only [Act.put, List.setIfInBounds_toArray, List.set_cons_zero, List.set_cons_succ]; refine hK _ _ ?_; clear hK K
                (repeat (first | (refine seq_skip (by rfl) ?_; intro K hK; simp only [Act.put, List.setIfInBounds_toArray, List.set_cons_zero, List.set_cons_succ]; refine hK _ ?_; clear hK K) | (refine seq_skipc (by rfl) ?_; intro K hK; simp only [Act.put, List.setIfInBounds_toArray, List.set_cons_zero, List.set_cons_succ]; refine hK _ ?_; clear hK K) | (refine seq_read (by rfl) (by rfl) ?_; intro K hK; go_big_quiet_op; first | go_big_quiet_on | (refine ⟨_, fun _ _ => rfl, ?_⟩; go_big_quiet_on))))
                refine seq_done ?_
                have hm := hn.row (stC x)
                replace h5 := h5.apart (k := gq) (by omega) (stC x)
                replace HE := Lib.hid (Ext.row HE.out hgw (stC x))
                generalize w'.setRow gq (stC x) = WF at *
                exact key gq WF ⟨h5, hm, (by omega), HE.out⟩
            intro g7 WN hkk
            clear h5 HE l5 hbB hs0 cpt
            obtain ⟨h5, h7, d57, hE⟩ := hkk
            have HE := Lib.hid hE
            clear hE
            clear h5 d57 hT hrx
            have q1 : ∀ w, (binOp .eql 26 (.agg (enC (l 1))) (.agg (enC (l 1)))).run Tryd.prog w = .ok (.bool true) w := (fun w => run_b (eql_en w _ _) (dec_same _))
            have q2 : ∀ w, (binOp .eql 26 (.agg (enC (l 2))) (.agg (enC (l 2)))).run Tryd.prog w = .ok (.bool true) w := (fun w => run_b (eql_en w _ _) (dec_same _))
            have q3 : ∀ w, (binOp .eql 26 (.agg (enC (l 3))) (.agg (enC (l 3)))).run Tryd.prog w = .ok (.bool true) w := (fun w => run_b (eql_en w _ _) (dec_same _))
            have q4 : ∀ w, (binOp .eql 26 (.agg (enC (l 4))) (.agg (enC (l 4)))).run Tryd.prog w = .ok (.bool true) w := (fun w => run_b (eql_en w _ _) (dec_same _))
            go_wp2_with fail
            replace h7 := Blk.drew h7
            replace HE := Lib.hid HE.out.drew
            refine wp_region_seq [(0, false), (1, false), (2, false), (3, false), (4, false), (5, false), (6, false), (7, false), (8, false), (9, false), (10, false), (11, false), (12, false), (13, false), (14, false), (15, false), (16, false), (17, false), (18, false), (19, false), (20, false), (21, false), (22, false), (23, false), (24, false), (25, false), (26, false), (27, false), (28, false), (29, false), (30, false), (31, false), (32, false), (33, false), (34, false), (35, false), (36, false), (37, false), (38, false)] Ext (by kernel_rfl) (by kernel_rfl) Ext.refl (fun _ _ _ => Ext.trans) ?_; simp only [List.map, nth_z, nth_s]
            (try simp only [Act.put, List.setIfInBounds_toArray, List.set_cons_zero, List.set_cons_succ])
            (repeat (first | (refine seq_skip (by rfl) ?_; intro K hK; simp only [Act.put, List.setIfInBounds_toArray, List.set_cons_zero, List.set_cons_succ]; refine hK _ ?_; clear hK K) | (refine seq_skipc (by rfl) ?_; intro K hK; simp only [Act.put, List.setIfInBounds_toArray, List.set_cons_zero, List.set_cons_succ]; refine hK _ ?_; clear hK K) | (refine seq_read (by rfl) (by rfl) ?_; intro K hK; go_big_quiet_op; first | go_big_quiet_on | (refine ⟨_, fun _ _ => rfl, ?_⟩; go_big_quiet_on))))
            refine seq_load_part rfl rfl (fun x hx => Blk.ext (h7) hx) (a0) rfl Tryd.underlying26 (en_info _) (by rfl) ?_; intro K hK; simp only [Act.put, List.setIfInBounds_toArray, List.set_cons_zero, List.set_cons_succ]; refine hK _ ?_; clear hK K
            (repeat (first | (refine seq_skip (by rfl) ?_; intro K hK; simp only [Act.put, List.setIfInBounds_toArray, List.set_cons_zero, List.set_cons_succ]; refine hK _ ?_; clear hK K) | (refine seq_skipc (by rfl) ?_; intro K hK; simp only [Act.put, List.setIfInBounds_toArray, List.set_cons_zero, List.set_cons_succ]; refine hK _ ?_; clear hK K) | (refine seq_read (by rfl) (by rfl) ?_; intro K hK; go_big_quiet_op; first | go_big_quiet_on | (refine ⟨_, fun _ _ => rfl, ?_⟩; go_big_quiet_on))))
            refine seq_load_rng rfl rfl ((fun x hx => R4 x (HE.out.trans hx))) rfl Tryd.underlying26 (en_info _) (by rfl) ?_; intro K hK; simp only [Act.put, List.setIfInBounds_toArray, List.set_cons_zero, List.set_cons_succ]; refine hK _ ?_; clear hK K
            refine seq_cmp rfl rfl rfl (en_guard) (q4) (by rfl) ?_; intro K hK; simp only [Act.put, List.setIfInBounds_toArray, List.set_cons_zero, List.set_cons_succ]; refine hK _ ?_; clear hK K
            (repeat (first | (refine seq_skip (by rfl) ?_; intro K hK; simp only [Act.put, List.setIfInBounds_toArray, List.set_cons_zero, List.set_cons_succ]; refine hK _ ?_; clear hK K) | (refine seq_skipc (by rfl) ?_; intro K hK; simp only [Act.put, List.setIfInBounds_toArray, List.set_cons_zero, List.set_cons_succ]; refine hK _ ?_; clear hK K) | (refine seq_read (by rfl) (by rfl) ?_; intro K hK; go_big_quiet_op; first | go_big_quiet_on | (refine ⟨_, fun _ _ => rfl, ?_⟩; go_big_quiet_on))))
            refine seq_load_part rfl rfl (fun x hx => Blk.ext (h7) hx) (a1) rfl Tryd.underlying26 (en_info _) (by rfl) ?_; intro K hK; simp only [Act.put, List.setIfInBounds_toArray, List.set_cons_zero, List.set_cons_succ]; refine hK _ ?_; clear hK K
            (repeat (first | (refine seq_skip (by rfl) ?_; intro K hK; simp only [Act.put, List.setIfInBounds_toArray, List.set_cons_zero, List.set_cons_succ]; refine hK _ ?_; clear hK K) | (refine seq_skipc (by rfl) ?_; intro K hK; simp only [Act.put, List.setIfInBounds_toArray, List.set_cons_zero, List.set_cons_succ]; refine hK _ ?_; clear hK K) | (refine seq_read (by rfl) (by rfl) ?_; intro K hK; go_big_quiet_op; first | go_big_quiet_on | (refine ⟨_, fun _ _ => rfl, ?_⟩; go_big_quiet_on))))
            refine seq_load_rng rfl rfl ((fun x hx => R1 x (HE.out.trans hx))) rfl Tryd.underlying26 (en_info _) (by rfl) ?_; intro K hK; simp only [Act.put, List.setIfInBounds_toArray, List.set_cons_zero, List.set_cons_succ]; refine hK _ ?_; clear hK K
            refine seq_cmp rfl rfl rfl (en_guard) (q1) (by rfl) ?_; intro K hK; simp only [Act.put, List.setIfInBounds_toArray, List.set_cons_zero, List.set_cons_succ]; refine hK _ ?_; clear hK K
            (repeat (first | (refine seq_skip (by rfl) ?_; intro K hK; simp only [Act.put, List.setIfInBounds_toArray, List.set_cons_zero, List.set_cons_succ]; refine hK _ ?_; clear hK K) | (refine seq_skipc (by rfl) ?_; intro K hK; simp only [Act.put, List.setIfInBounds_toArray, List.set_cons_zero, List.set_cons_succ]; refine hK _ ?_; clear hK K) | (refine seq_read (by rfl) (by rfl) ?_; intro K hK; go_big_quiet_op; first | go_big_quiet_on | (refine ⟨_, fun _ _ => rfl, ?_⟩; go_big_quiet_on))))
            refine seq_load_part rfl rfl (fun x hx => Blk.ext (h7) hx) (a2) rfl Tryd.underlying26 (en_info _) (by rfl) ?_; intro K hK; simp only [Act.put, List.setIfInBounds_toArray, List.set_cons_zero, List.set_cons_succ]; refine hK _ ?_; clear hK K
            (repeat (first | (refine seq_skip (by rfl) ?_; intro K hK; simp only [Act.put, List.setIfInBounds_toArray, List.set_cons_zero, List.set_cons_succ]; refine hK _ ?_; clear hK K) | (refine seq_skipc (by rfl) ?_; intro K hK; simp only [Act.put, List.setIfInBounds_toArray, List.set_cons_zero, List.set_cons_succ]; refine hK _ ?_; clear hK K) | (refine seq_read (by rfl) (by rfl) ?_; intro K hK; go_big_quiet_op; first | go_big_quiet_on | (refine ⟨_, fun _ _ => rfl, ?_⟩; go_big_quiet_on))))
            refine seq_load_rng rfl rfl ((fun x hx => R2 x (HE.out.trans hx))) rfl Tryd.underlying26 (en_info _) (by rfl) ?_; intro K hK; simp only [Act.put, List.setIfInBounds_toArray, List.set_cons_zero, List.set_cons_succ]; refine hK _ ?_; clear hK K
            refine seq_cmp rfl rfl rfl (en_guard) (q2) (by rfl) ?_; intro K hK; simp only [Act.put, List.setIfInBounds_toArray, List.set_cons_zero, List.set_cons_succ]; refine hK _ ?_; clear hK K
            (repeat (first | (refine seq_skip (by rfl) ?_; intro K hK; simp only [Act.put, List.setIfInBounds_toArray, List.set_cons_zero, List.set_cons_succ]; refine hK _ ?_; clear hK K) | (refine seq_skipc (by rfl) ?_; intro K hK; simp only [Act.put, List.setIfInBounds_toArray, List.set_cons_zero, List.set_cons_succ]; refine hK _ ?_; clear hK K) | (refine seq_read (by rfl) (by rfl) ?_; intro K hK; go_big_quiet_op; first | go_big_quiet_on | (refine ⟨_, fun _ _ => rfl, ?_⟩; go_big_quiet_on))))
            refine seq_load_part rfl rfl (fun x hx => Blk.ext (h7) hx) (a3) rfl Tryd.underlying26 (en_info _) (by rfl) ?_; intro K hK; simp only [Act.put, List.setIfInBounds_toArray, List.set_cons_zero, List.set_cons_succ]; refine hK _ ?_; clear hK K
            (repeat (first | (refine seq_skip (by rfl) ?_; intro K hK; simp only [Act.put, List.setIfInBounds_toArray, List.set_cons_zero, List.set_cons_succ]; refine hK _ ?_; clear hK K) | (refine seq_skipc (by rfl) ?_; intro K hK; simp only [Act.put, List.setIfInBounds_toArray, List.set_cons_zero, List.set_cons_succ]; refine hK _ ?_; clear hK K) | (refine seq_read (by rfl) (by rfl) ?_; intro K hK; go_big_quiet_op; first | go_big_quiet_on | (refine ⟨_, fun _ _ => rfl, ?_⟩; go_big_quiet_on))))
            refine seq_load_rng rfl rfl ((fun x hx => R3 x (HE.out.trans hx))) rfl Tryd.underlying26 (en_info _) (by rfl) ?_; intro K hK; simp only [Act.put, List.setIfInBounds_toArray, List.set_cons_zero, List.set_cons_succ]; refine hK _ ?_; clear hK K
            refine seq_cmp rfl rfl rfl (en_guard) (q3) (by rfl) ?_; intro K hK; simp only [Act.put, List.setIfInBounds_toArray, List.set_cons_zero, List.set_cons_succ]; refine hK _ ?_; clear hK K
            (repeat (first | (refine seq_skip (by rfl) ?_; intro K hK; simp only [Act.put, List.setIfInBounds_toArray, List.set_cons_zero, List.set_cons_succ]; refine hK _ ?_; clear hK K) | (refine seq_skipc (by rfl) ?_; intro K hK; simp only [Act.put, List.setIfInBounds_toArray, List.set_cons_zero, List.set_cons_succ]; refine hK _ ?_; clear hK K) | (refine seq_read (by rfl) (by rfl) ?_; intro K hK; go_big_quiet_op; first | go_big_quiet_on | (refine ⟨_, fun _ _ => rfl, ?_⟩; go_big_quiet_on))))
            refine seq_done ?_
            go_wp2
            go_ret
            exact ⟨rfl, HE.out⟩
  · clear hl
    have hne : ((L.length : Int) != 5) = true := by simp; omega
    go_enter Tryd.func6, Tryd.ntmps6
    go_wp2_with (fail); refine (awake13_c _ HT.out).mono ?_; rintro e w' ⟨rfl, hE⟩; (try replace hm := hm.ext hE); (try replace h1 := h1.ext hE); (try replace h5 := h5.ext hE); (try replace h7 := h7.ext hE); (try replace HT := Lib.hid (HT.out.ext hE)); (try replace HE := Lib.hid (HE.out.trans hE))
    clear hE
    go_wp2_with (fail); refine (awake13_c _ HT.out).mono ?_; rintro e w' ⟨rfl, hE⟩; (try replace hm := hm.ext hE); (try replace h1 := h1.ext hE); (try replace h5 := h5.ext hE); (try replace h7 := h7.ext hE); (try replace HT := Lib.hid (HT.out.ext hE)); (try replace HE := Lib.hid (HE.out.trans hE))
    clear hE
    go_wp2
    go_ret
    exact ⟨rfl, HE.out⟩
end Go.Proofs.YtbncaghcokmefaaDoor
