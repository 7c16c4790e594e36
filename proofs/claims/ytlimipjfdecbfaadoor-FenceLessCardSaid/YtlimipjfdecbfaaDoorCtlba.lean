/- Package tlb: home, is, strays, Right; slices.IndexFunc and ContainsFunc over a set's ways. -/
import Derived.Test.YtlimipjfdecbfaaDoorRtlbx
import Derived.Test.YtlimipjfdecbfaaDoorRtlba
namespace Go.Proofs.YtlimipjfdecbfaaDoor
open Go.ChangeShapes Go.WideShapes Go.ChangeAt Go.RowKit
set_option linter.unusedVariables false
set_option linter.unusedSimpArgs false
set_option maxRecDepth 10000

theorem is14_c (A : Option Addr) (n c : Nat) (i v : Int) (w : World) :
    Calls Tryd.prog 43 #[.agg #[.slice A n c], .int .i64 i, .int .i64 v] w fun r w' => r = .returned (.bool (decide (0 ≤ i) && (decide (i < (n : Int)) && (decide (0 ≤ v) && decide (v < 4))))) ∧ Ext w w' := by
  have h1 := Blk.new w 37 #[.slice A n c]
  have HE := Lib.hid ((Ext.refl w).alloc (.cells #[.slice A n c] 37))
  have x1 := (h1.cell 0).trans rfl
  cases d1 : decide (0 ≤ i) <;> cases d2 : decide (i < (n : Int)) <;> cases d3 : decide (0 ≤ v) <;> cases d4 : decide (v < 4)
  all_goals
    go_enter Tryd.func43, Tryd.ntmps43
    go_wp2
    go_ret
    exact ⟨rfl, HE.out⟩
/-- what IndexFunc tells -/
def idF (p : En → Bool) (s : Ws) : Int := if fbW p s = true then ((fiW p s : Nat) : Int) else -1
theorem idF_y {p : En → Bool} {s : Ws} (h : fbW p s = true) : idF p s = ((fiW p s : Nat) : Int) := by unfold idF; rw [if_pos h]
theorem idF_n {p : En → Bool} {s : Ws} (h : fbW p s = false) : idF p s = -1 := by unfold idF; rw [h]; rfl
attribute [irreducible] idF
end Go.Proofs.YtlimipjfdecbfaaDoor
/- Package tlb: slices.Clone of sets, with, Use, Drop, Put, New. -/
namespace Go.Proofs.YtlimipjfdecbfaaDoor
open Go.ChangeShapes Go.WideShapes Go.ChangeAt Go.RowKit
set_option linter.unusedVariables false
set_option linter.unusedSimpArgs false
set_option maxRecDepth 10000

theorem clone14_c (A : Option Addr) (L : List St) (c : Nat) (hL : L.length ≤ 1000) (w : World) (hr : RowV KS w A L c) :
    Calls Tryd.prog 42 #[.slice A L.length c] w fun r w' => ∃ v, r = .returned v ∧ w'.ownsRow w.heap.size 46 45 v L.length (KS.flat L) ∧ Ext w w' := by
  rcases A with _ | a
  · obtain ⟨rfl, rfl⟩ := hr.2.1 rfl
    have he : ∀ w : World, (binOp .eql 35 (.slice none 0 0) (.slice none 0 0)).run Tryd.prog w = .ok (.bool true) w := fun _ => rfl
    go_enter Tryd.func42, Tryd.ntmps42
    go_wp2
    go_ret
    exact ⟨_, rfl, World.ownsRow_nil _ _ _ _, Ext.refl _⟩
  · have hcp : ∀ ty, ∃ v' w', (Builtin.append_ #[35, 35] ty #[.slice (some ⟨w.heap.size, 0, none⟩) 0 0, .slice (some a) L.length c]).run Tryd.prog (w.alloc (.cells #[] 46)) = .ok v' w' ∧ w'.ownsRow w.heap.size 46 45 v' L.length (KS.flat L) ∧ Ext w w' := fun ty =>
      copy_row ks_ok w hr (by show L.length * 232 ≤ _; omega) (by unfold maxLen; omega) ty
    have he : ∀ w : World, (binOp .eql 35 (.slice (some a) L.length c) (.slice none 0 0)).run Tryd.prog w = .ok (.bool false) w := fun _ => rfl
    clear hr
    go_enter Tryd.func42, Tryd.ntmps42
    go_wp2_with (at_builtin; refine wpList_append_run' _ rfl _ _ _ rfl _ _ rfl rfl _ (hcp _) ?_; rintro v3 w3 ⟨hown, hE3⟩)
    go_ret
    exact ⟨_, rfl, hown, hE3⟩
theorem with14p_c (A : Option Addr) (L : List St) (c : Nat) (hL : L.length ≤ 1000) (i : Nat) (hi : i < L.length) (s : St) (w : World) (hr : RowV KS w A L c) :
    Calls Tryd.prog 44 #[.agg #[.slice A L.length c], .int .i64 (i : Int), .agg (stC s)] w (MadeT (L.set i s) w) := by
  obtain ⟨W0, hW⟩ : ∃ W0, W0 = ((w.alloc (.cells #[.slice A L.length c] 37)).alloc (.cells (stC s) 46)).alloc (.cells #[.slice none 0 0] 37) := ⟨_, rfl⟩
  have HE : Hid (Ext w W0) := Lib.hid (by rw [hW]; exact (((Ext.refl w).alloc _).alloc _).alloc _)
  have h1 : Blk W0 w.heap.size 37 #[.slice A L.length c] := by rw [hW]; exact ((Blk.new w _ _).alloc _).alloc _
  have h2 : Blk W0 (w.heap.size + 1) 46 (stC s) := by rw [hW]; exact (blk_at (by simp)).alloc _
  have h3 : Blk W0 (w.heap.size + 2) 37 #[.slice none 0 0] := by rw [hW]; exact blk_at (by simp)
  have x0 : W0.cell? ⟨w.heap.size, 0, none⟩ = some (.slice A L.length c) := (h1.cell 0).trans rfl
  have hcl := clone14_c A L c hL W0 (hr.ext HE.out)
  have hsz : w.heap.size + 3 = W0.heap.size := by rw [hW]; simp
  have HW := Lib.hid hW
  rw [hW] at x0
  clear hW hr
  have hiz : (i : Int) < (L.length : Int) := by omega
  go_enter Tryd.func44, Tryd.ntmps44
  go_wp2_with fail
  rw [← HW.out]
  refine hcl.mono ?_
  rintro e w3 ⟨v3, rfl, hown, hE3⟩
  obtain ⟨g0, cap, cur0, es0, rfl, hb0, -, -, -, -⟩ := own_put ks_ok hown hi s
  replace h1 := h1.ext hE3
  replace h2 := (h2.ext hE3).apart (show w.heap.size + 1 ≠ w.heap.size by omega) #[.slice (some ⟨g0, 0, none⟩) L.length cap]
  replace h3 := (h3.ext hE3).apart (show w.heap.size + 2 ≠ w.heap.size by omega) #[.slice (some ⟨g0, 0, none⟩) L.length cap]
  replace hown := own_low hown (show w.heap.size < W0.heap.size by omega) #[.slice (some ⟨g0, 0, none⟩) L.length cap]
  replace HE := Lib.hid ((HE.out.trans hE3).row (Nat.le_refl _) #[.slice (some ⟨g0, 0, none⟩) L.length cap])
  have k1 := h1.row #[.slice (some ⟨g0, 0, none⟩) L.length cap]
  obtain ⟨g, cap', cur, es, hv, hbg, hbk, hfit, hes, hown2⟩ := own_put ks_ok hown hi s
  injection hv with e1 e2 e3
  injection e1 with e1
  injection e1 with e1
  subst e1 e3
  replace hfit : i * 45 + (stC s).size ≤ cur.size := hfit
  replace hes : putAt cur (i * 45) (stC s).toList = es := hes
  replace hbk : Blk (w3.setRow w.heap.size #[.slice (some ⟨g0, 0, none⟩) L.length cap]) g0 46 cur := hbk
  have m1 := k1.apart (show w.heap.size ≠ g0 by omega) es
  have m3 := h3.apart (show w.heap.size + 2 ≠ g0 by omega) es
  replace HE := Lib.hid (HE.out.row (show w.heap.size ≤ g0 by omega) es)
  have hlow := own_low hown2 (show w.heap.size + 2 < W0.heap.size by omega) #[.slice (some ⟨g0, 0, none⟩) L.length cap]
  have HS : (#[.slice A L.length c] : Array Value).setIfInBounds 0 (.slice (some ⟨g0, 0, none⟩) L.length cap) = #[.slice (some ⟨g0, 0, none⟩) L.length cap] := rfl
  have x2 : (w3.setRow w.heap.size #[.slice (some ⟨g0, 0, none⟩) L.length cap]).cell? ⟨w.heap.size, 0, none⟩ = some (.slice (some ⟨g0, 0, none⟩) L.length cap) := (k1.cell 0).trans rfl
  clear hown hE3 hcl
  go_wp2_with (first | (refine wpList_store_cell rfl 35 _ _ rfl rfl rfl h1 (by simp) HS (by kernel_rfl) rfl rfl ?_) | (refine wpList_load_blk (by rfl) 46 _ rfl rfl h2 Tryd.underlying46 rfl (by kernel_rfl) ?_) | (refine wpList_store_part rfl 46 _ _ rfl rfl rfl hbk (hfit) (hes) (st_info _) (stC_one _) ?_) | (refine wpList_load_blk (by rfl) 37 _ rfl rfl m1 Tryd.underlying37 rfl (by kernel_rfl) ?_) | (refine wpList_store_row rfl 37 _ _ rfl _ _ rfl rfl _ _ m3 (by kernel_rfl) (by rfl) (by simp [Value.oneCell']) ?_))
  (try simp only [Exit.inBlock, Exit.then]); refine bodyPost_ret (results_cell_row rfl _ _ _ _ _ _ _ rfl ((m3.row _)) Tryd.underlying37 rfl (by kernel_rfl)) rfl ?_
  obtain ⟨A', c', hv, hrow, hnew⟩ := own_rowv ks_ok (L := L.set i s) (by rw [List.length_set]; exact hlow)
  rw [List.length_set] at hv
  injection hv with e1 e2 e3
  subst e1 e3
  exact ⟨_, _, by rw [List.length_set], hrow, fun a h => Nat.le_trans (by omega) (hnew a h), HE.out.row (by omega) _⟩
/-! n zero sets, made at once -/
theorem s0_cells14 : stC s0 = #[.bool false, .int .u64 0, .bool false, .int .i64 0, .int .u64 0, .int .u64 0, .bool false, .bool false, .bool false, .bool false, .bool false, .bool false, .int .u64 0, .bool false, .int .i64 0, .int .u64 0, .int .u64 0, .bool false, .bool false, .bool false, .bool false, .bool false, .bool false, .int .u64 0, .bool false, .int .i64 0, .int .u64 0, .int .u64 0, .bool false, .bool false, .bool false, .bool false, .bool false, .bool false, .int .u64 0, .bool false, .int .i64 0, .int .u64 0, .int .u64 0, .bool false, .bool false, .bool false, .bool false, .bool false, .int .u8 0] := by unfold s0 e0; simp only [stC_eq, wsC_eq, enC_eq, pmC_eq]; rfl
def zsC (n : Nat) : Array Value := madeCells #[.bool false, .int .u64 0, .bool false, .int .i64 0, .int .u64 0, .int .u64 0, .bool false, .bool false, .bool false, .bool false, .bool false, .bool false, .int .u64 0, .bool false, .int .i64 0, .int .u64 0, .int .u64 0, .bool false, .bool false, .bool false, .bool false, .bool false, .bool false, .int .u64 0, .bool false, .int .i64 0, .int .u64 0, .int .u64 0, .bool false, .bool false, .bool false, .bool false, .bool false, .bool false, .int .u64 0, .bool false, .int .i64 0, .int .u64 0, .int .u64 0, .bool false, .bool false, .bool false, .bool false, .bool false, .int .u8 0] (n * 45)
theorem zs_flat (n : Nat) : (zsC n).toList = KS.flat (List.replicate n s0) := by
  have hl : (KS.flat (List.replicate n s0)).length = n * 45 := by
    have := flat_len ks_ok (List.replicate n s0)
    rwa [List.length_replicate] at this
  apply List.ext_getElem?
  intro k
  by_cases hk : k < n * 45
  · have h1 := flat_get ks_ok (List.replicate n s0) (k / 45) (k % 45) (by rw [List.length_replicate]; omega) (by show k % 45 < 45; omega)
    rw [show k / 45 * KS.sz + k % 45 = k by show k / 45 * 45 + k % 45 = k; omega, show (List.replicate n s0).getD (k / 45) KS.d = s0 by
      have : k / 45 < n := by omega
      simp [List.getD, this]] at h1
    rw [h1, show KS.cf s0 = #[.bool false, .int .u64 0, .bool false, .int .i64 0, .int .u64 0, .int .u64 0, .bool false, .bool false, .bool false, .bool false, .bool false, .bool false, .int .u64 0, .bool false, .int .i64 0, .int .u64 0, .int .u64 0, .bool false, .bool false, .bool false, .bool false, .bool false, .bool false, .int .u64 0, .bool false, .int .i64 0, .int .u64 0, .int .u64 0, .bool false, .bool false, .bool false, .bool false, .bool false, .bool false, .int .u64 0, .bool false, .int .i64 0, .int .u64 0, .int .u64 0, .bool false, .bool false, .bool false, .bool false, .bool false, .int .u8 0] from s0_cells14, Array.getElem?_toList]
    have hm : k % 45 < 45 := by omega
    unfold zsC madeCells
    rw [Array.getElem?_map, Array.getElem?_range, if_pos hk]
    simp only [Option.map_some]
    rw [getElem!_pos _ _ (by show k % 45 < 45; omega)]
    exact (Array.getElem?_eq_getElem (by show k % 45 < 45; omega)).symm
  · have h2 : (zsC n).toList.length = n * 45 := by rw [Array.length_toList]; unfold zsC; rw [size_madeCells]
    rw [List.getElem?_eq_none (by rw [h2]; omega), List.getElem?_eq_none (by rw [hl]; omega)]
theorem make_zs (n : Nat) (hn : n ≤ 1000) (W : World) : (Instr.makeSlice 35 (.int .i64 (n : Int)) (.int .i64 (n : Int))).run Tryd.prog W = .ok (.slice (some ⟨W.heap.size, 0, none⟩) n n) (W.alloc (.cells (zsC n) 46)) := by
  obtain ⟨i0, hi, hz0, hz1, hz2⟩ := info_parts (P := Tryd.prog) (e := 46) (z := .agg #[.bool false, .int .u64 0, .bool false, .int .i64 0, .int .u64 0, .int .u64 0, .bool false, .bool false, .bool false, .bool false, .bool false, .bool false, .int .u64 0, .bool false, .int .i64 0, .int .u64 0, .int .u64 0, .bool false, .bool false, .bool false, .bool false, .bool false, .bool false, .int .u64 0, .bool false, .int .i64 0, .int .u64 0, .int .u64 0, .bool false, .bool false, .bool false, .bool false, .bool false, .bool false, .int .u64 0, .bool false, .int .i64 0, .int .u64 0, .int .u64 0, .bool false, .bool false, .bool false, .bool false, .bool false, .int .u8 0]) (size := 45) (bytes := 232) (by kernel_rfl)
  have h := run_make (P := Tryd.prog) W 35 46 i0 _ Tryd.underlying35 hi hz0 .i64 .i64 (n : Int) (n : Int) (by omega) (by omega) (by rw [hz2]; omega) (by omega)
  rw [h, hz1, Int.toNat_natCast]; rfl
theorem zs_row (n : Nat) (hn : n ≤ 1000) (W : World) : RowV KS (W.alloc (.cells (zsC n) 46)) (some ⟨W.heap.size, 0, none⟩) (List.replicate n s0) n := by
  have h := World.ownsRow_lit (base := W.heap.size) (e := KS.e) (size := KS.sz) W (zsC n) n (Nat.le_refl _) (by unfold maxLen; omega) (by unfold zsC; rw [size_madeCells]; rfl)
  rw [zs_flat] at h
  obtain ⟨A, c, hv, hr, -⟩ := own_rowv ks_ok (L := List.replicate n s0) (by rw [List.length_replicate]; exact h)
  rw [List.length_replicate] at hv
  injection hv with e1 e2 e3
  subst e1 e3
  exact hr
attribute [irreducible] zsC
end Go.Proofs.YtlimipjfdecbfaaDoor
/- Package tlb: Use, Drop, Put. -/
namespace Go.Proofs.YtlimipjfdecbfaaDoor
open Go.ChangeShapes Go.WideShapes Go.ChangeAt Go.RowKit
set_option linter.unusedVariables false
set_option linter.unusedSimpArgs false
set_option maxRecDepth 10000

theorem drop14p_no (A : Option Addr) (n c : Nat) (i v : Int) (hno : ¬ (0 ≤ i ∧ i < n ∧ 0 ≤ v ∧ v ≤ 3)) (w : World) :
    Calls Tryd.prog 33 #[.agg #[.slice A n c], .int .i64 i, .int .i64 v] w fun r w' => r = .returned (.tuple #[.agg #[.slice A n c], .int .i64 1]) ∧ Ext w w' := by
  have h1 : Blk ((w.alloc (.cells #[.slice A n c] 37)).alloc (.cells #[.slice none 0 0] 37)) w.heap.size 37 #[.slice A n c] := (Blk.new w _ _).alloc _
  have h2 : Blk ((w.alloc (.cells #[.slice A n c] 37)).alloc (.cells #[.slice none 0 0] 37)) (w.heap.size + 1) 37 #[.slice none 0 0] := blk_at (by simp)
  have HE := Lib.hid (((Ext.refl w).alloc (.cells #[.slice A n c] 37)).alloc (.cells #[.slice none 0 0] 37))
  have cis := fun w => is14_c A n c i v w
  rw [show (decide (0 ≤ i) && (decide (i < (n : Int)) && (decide (0 ≤ v) && decide (v < 4)))) = false by
    cases h : (decide (0 ≤ i) && (decide (i < (n : Int)) && (decide (0 ≤ v) && decide (v < 4))))
    · rfl
    · simp at h; exact absurd (by omega) hno] at cis
  clear hno
  go_enter Tryd.func33, Tryd.ntmps33
  go_wp2_with ((refine wpList_load_blk (by rfl) 37 _ rfl rfl h1 Tryd.underlying37 rfl (by kernel_rfl) ?_)); refine (cis _).mono ?_; rintro e w' ⟨rfl, hE⟩; (try replace h1 := h1.ext hE); (try replace h2 := h2.ext hE); (try replace HE := Lib.hid (HE.out.trans hE))
  clear hE cis
  go_wp2_with (first | (refine wpList_load_blk (by rfl) 37 _ rfl rfl h1 Tryd.underlying37 rfl (by kernel_rfl) ?_) | (refine wpList_store_row rfl 37 _ _ rfl _ _ rfl rfl _ _ h2 (by kernel_rfl) (by rfl) (by simp [Value.oneCell']) ?_))
  (try simp only [Exit.inBlock, Exit.then]); refine bodyPost_ret (results_c2 rfl _ _ _ _ _ _ rfl ((h2.row _)) rfl Tryd.underlying37 (by kernel_rfl)) rfl ?_
  exact ⟨by first | rfl | simp, HE.out.row (by omega) _⟩
theorem drop14p_c (A : Option Addr) (L : List St) (c : Nat) (hL : L.length ≤ 1000) (i v : Nat) (hi : i < L.length) (hv : v < 4) (w : World) (hr : RowV KS w A L c) (hT : Lays w) :
    Calls Tryd.prog 33 #[.agg #[.slice A L.length c], .int .i64 (i : Int), .int .i64 (v : Int)] w (MadeTI (dropT L i v) 0 w) := by
  have h1 : Blk ((w.alloc (.cells #[.slice A L.length c] 37)).alloc (.cells #[.slice none 0 0] 37)) w.heap.size 37 #[.slice A L.length c] := (Blk.new w _ _).alloc _
  have h2 : Blk ((w.alloc (.cells #[.slice A L.length c] 37)).alloc (.cells #[.slice none 0 0] 37)) (w.heap.size + 1) 37 #[.slice none 0 0] := blk_at (by simp)
  have HE := Lib.hid (((Ext.refl w).alloc (.cells #[.slice A L.length c] 37)).alloc (.cells #[.slice none 0 0] 37))
  obtain ⟨b, off, rfl, hb, hrx⟩ := hr.some (by omega)
  have hrow : ∀ W : World, Ext w W → RowV KS W (some ⟨b, off, none⟩) L c := fun W h => hr.ext h
  have hel : w.rangeAt b (off + i * 45) (stC (sT L i)).toList := by rw [sT_eq]; exact hrx i hi
  have cus := fun w => drop13_c (sT L i) v hv w
  have cwi := fun w h => with14p_c (some ⟨b, off, none⟩) L c hL i hi ((sT L i).put v e0) w h
  rw [dropT_eq L i v] at cwi
  have hlen : (dropT L i v).length = L.length := by rw [← dropT_eq, List.length_set]
  generalize (sT L i).put v e0 = su at cus cwi
  generalize sT L i = s at hel cus
  have hiz : (i : Int) < (L.length : Int) := by omega
  have cis := fun w => is14_c (some ⟨b, off, none⟩) L.length c (i : Int) (v : Int) w
  rw [show (decide (0 ≤ (i : Int)) && (decide ((i : Int) < (L.length : Int)) && (decide (0 ≤ (v : Int)) && decide ((v : Int) < 4)))) = true by simp; omega] at cis
  clear hr hrx
  go_enter Tryd.func33, Tryd.ntmps33
  go_wp2_with ((refine wpList_load_blk (by rfl) 37 _ rfl rfl h1 Tryd.underlying37 rfl (by kernel_rfl) ?_)); refine (cis _).mono ?_; rintro e w' ⟨rfl, hE⟩; (try replace hb := hb.ext hE); (try replace h1 := h1.ext hE); (try replace h2 := h2.ext hE); (try replace HE := Lib.hid (HE.out.trans hE))
  clear hE cis
  go_wp2_with fail
  (try replace hb := Blk.drew hb); (try replace h1 := Blk.drew h1); (try replace h2 := Blk.drew h2); replace HE := Lib.hid HE.out.drew
  refine wp_region_seq [(0, false), (1, false), (2, false), (3, false), (4, false), (5, false), (6, false), (7, false), (8, true), (9, true), (10, true), (11, false)] (Gap (w.heap.size + 1) (w.heap.size + 2)) (by kernel_rfl) (by kernel_rfl) (Gap.refl _ _) (fun _ _ _ => Gap.trans) ?_; simp only [List.map, nth_z, nth_s]
  refine seq_load rfl rfl (fun x hx => Gap.blk hx (h1) (by omega)) rfl Tryd.underlying37 (by kernel_rfl) (by rfl) ?_; intro K hK; simp only [Act.put, List.setIfInBounds_toArray, List.set_cons_zero, List.set_cons_succ]; refine hK _ ?_; clear hK K
  (repeat (first | (refine seq_skip (by rfl) ?_; intro K hK; simp only [Act.put, List.setIfInBounds_toArray, List.set_cons_zero, List.set_cons_succ]; refine hK _ ?_; clear hK K) | (refine seq_skipc (by rfl) ?_; intro K hK; simp only [Act.put, List.setIfInBounds_toArray, List.set_cons_zero, List.set_cons_succ]; refine hK _ ?_; clear hK K) | (refine seq_read (by rfl) (by rfl) ?_; intro K hK; go_big_quiet_op; first | go_big_quiet_on | (refine ⟨_, fun _ _ => rfl, ?_⟩; go_big_quiet_on))))
  refine seq_value (.slice (some ⟨b, off, none⟩) L.length c) (by rfl) (fun x hx => by have hq := ((Gap.blk hx (h1) (by omega)).cell 0).trans (rfl); simp [go_sem, execOp, Act.eval, hq]) ?_; intro K hK; simp only [Act.put, List.setIfInBounds_toArray, List.set_cons_zero, List.set_cons_succ]; refine hK _ ?_; clear hK K
  (repeat (first | (refine seq_skip (by rfl) ?_; intro K hK; simp only [Act.put, List.setIfInBounds_toArray, List.set_cons_zero, List.set_cons_succ]; refine hK _ ?_; clear hK K) | (refine seq_skipc (by rfl) ?_; intro K hK; simp only [Act.put, List.setIfInBounds_toArray, List.set_cons_zero, List.set_cons_succ]; refine hK _ ?_; clear hK K) | (refine seq_read (by rfl) (by rfl) ?_; intro K hK; go_big_quiet_op; first | go_big_quiet_on | (refine ⟨_, fun _ _ => rfl, ?_⟩; go_big_quiet_on))))
  refine seq_load_rng rfl rfl ((fun x hx => rgx_gap hx (rgx_ext HE.out hel) (by omega))) rfl Tryd.underlying46 (st_info _) (by rfl) ?_; intro K hK; simp only [Act.put, List.setIfInBounds_toArray, List.set_cons_zero, List.set_cons_succ]; refine hK _ ?_; clear hK K
  (repeat (first | (refine seq_skip (by rfl) ?_; intro K hK; simp only [Act.put, List.setIfInBounds_toArray, List.set_cons_zero, List.set_cons_succ]; refine hK _ ?_; clear hK K) | (refine seq_skipc (by rfl) ?_; intro K hK; simp only [Act.put, List.setIfInBounds_toArray, List.set_cons_zero, List.set_cons_succ]; refine hK _ ?_; clear hK K) | (refine seq_read (by rfl) (by rfl) ?_; intro K hK; go_big_quiet_op; first | go_big_quiet_on | (refine ⟨_, fun _ _ => rfl, ?_⟩; go_big_quiet_on))))
  refine seq_call (cus _) rfl Tryd.func45 (by kernel_rfl) (by kernel_rfl) (by rfl) (by rfl) ?_; intro K hK; rintro e w' ⟨rfl, hE⟩; refine ⟨_, rfl, (Gap.ext hE), ?_⟩; simp only [Act.put, List.setIfInBounds_toArray, List.set_cons_zero, List.set_cons_succ]; refine hK _ _ ?_; clear hK K; (try replace hb := hb.ext hE); (try replace h1 := h1.ext hE); (try replace h2 := h2.ext hE); (try replace HE := Lib.hid (HE.out.trans hE))
  clear hE
  have l2 := h2.lt
  refine seq_call (cwi _ (hrow _ HE.out)) rfl Tryd.func44 (by kernel_rfl) (by kernel_rfl) (by rfl) (by rfl) ?_; intro K hK; rintro e w' ⟨A2, c2, rfl, hr2, hn2, hE⟩; refine ⟨_, rfl, (Gap.ext hE), ?_⟩; simp only [Act.put, List.setIfInBounds_toArray, List.set_cons_zero, List.set_cons_succ]; refine hK _ _ ?_; clear hK K; (try replace hb := hb.ext hE); (try replace h1 := h1.ext hE); (try replace h2 := h2.ext hE); (try replace HE := Lib.hid (HE.out.trans hE))
  clear hE
  refine seq_store_row rfl rfl rfl (h2) (by kernel_rfl) (by rfl) (by simp [Value.oneCell']) (by rfl) (Gap.row _ (by omega) (by omega) _) ?_; intro K hK; simp only [Act.put, List.setIfInBounds_toArray, List.set_cons_zero, List.set_cons_succ]; refine hK _ _ ?_; clear hK K
  (repeat (first | (refine seq_skip (by rfl) ?_; intro K hK; simp only [Act.put, List.setIfInBounds_toArray, List.set_cons_zero, List.set_cons_succ]; refine hK _ ?_; clear hK K) | (refine seq_skipc (by rfl) ?_; intro K hK; simp only [Act.put, List.setIfInBounds_toArray, List.set_cons_zero, List.set_cons_succ]; refine hK _ ?_; clear hK K) | (refine seq_read (by rfl) (by rfl) ?_; intro K hK; go_big_quiet_op; first | go_big_quiet_on | (refine ⟨_, fun _ _ => rfl, ?_⟩; go_big_quiet_on))))
  refine seq_done ?_
  go_wp2
  (try simp only [Exit.inBlock, Exit.then]); refine bodyPost_ret (results_c2 rfl _ _ _ _ _ _ rfl ((h2.row _)) rfl Tryd.underlying37 (by kernel_rfl)) rfl ?_
  exact ⟨A2, c2, by first | rfl | simp, hr2.row (fun a h => by have := hn2 a h; omega) _, fun a h => by have := hn2 a h; omega, HE.out.row (by omega) _⟩
end Go.Proofs.YtlimipjfdecbfaaDoor
