/- Package tlb: home, is, strays, Right; slices.IndexFunc and ContainsFunc over a set's ways. -/
import Derived.Test.YtlhoedpencmikaaDoorGrtlb
namespace Go.Proofs.YtlhoedpencmikaaDoor
open Go.ChangeShapes Go.WideShapes Go.ChangeAt Go.RowKit
set_option linter.unusedVariables false
set_option linter.unusedSimpArgs false
set_option maxRecDepth 10000

theorem home14_c (e : En) (l0 : 0 ≤ e.l) (l2 : e.l ≤ 2) (e1 : e.vp < 18446744073709551616) (n : Nat) (hn : 0 < n) (hn2 : n ≤ 9223372036854775807) (w : World) :
    Calls Tryd.prog 31 #[.agg (enC e), .int .i64 (n : Int)] w fun r w' => r = .returned (.int .i64 ((ixT n e.vp e.l : Nat) : Int)) ∧ Ext w w' := by
  have h1 := Blk.new w 52 (enC e)
  have HE := Lib.hid ((Ext.refl w).alloc (.cells (enC e) 52))
  have x3 := h1.en_l
  have x4 := h1.en_vp
  have he := ix_eq hn (l := e.l) (v := (e.vp : Int)) (by omega) (by have := (pag_pos l0 l2).1; omega)
  have hlt := ix_lt hn (e.vp : Int) e.l
  have hp := pag_is l0 l2
  generalize ixT n (e.vp : Int) e.l = x at *
  generalize e.vp = v at *
  generalize hl : e.l = l at *
  clear hl
  rcases hp with ⟨rfl, hp⟩ | ⟨rfl, hp⟩ | ⟨rfl, hp⟩
  all_goals
    rw [hp] at he
    clear hp l0 l2
    replace he := he.symm
    (try rw [Int.ediv_one] at he)
    go_enter Tryd.func31, Tryd.ntmps31
    go_wp2
    go_ret
    exact ⟨rfl, HE.out⟩
theorem is14_c (A : Option Addr) (n c : Nat) (i v : Int) (w : World) :
    Calls Tryd.prog 36 #[.agg #[.slice A n c], .int .i64 i, .int .i64 v] w fun r w' => r = .returned (.bool (decide (0 ≤ i) && (decide (i < (n : Int)) && (decide (0 ≤ v) && decide (v < 4))))) ∧ Ext w w' := by
  have h1 := Blk.new w 24 #[.slice A n c]
  have HE := Lib.hid ((Ext.refl w).alloc (.cells #[.slice A n c] 24))
  have x1 := (h1.cell 0).trans rfl
  cases d1 : decide (0 ≤ i) <;> cases d2 : decide (i < (n : Int)) <;> cases d3 : decide (0 ≤ v) <;> cases d4 : decide (v < 4)
  all_goals
    go_enter Tryd.func36, Tryd.ntmps36
    go_wp2
    go_ret
    exact ⟨rfl, HE.out⟩
/-- what IndexFunc tells -/
def idF (p : En → Bool) (s : Ws) : Int := if fbW p s = true then ((fiW p s : Nat) : Int) else -1
theorem idF_y {p : En → Bool} {s : Ws} (h : fbW p s = true) : idF p s = ((fiW p s : Nat) : Int) := by unfold idF; rw [if_pos h]
theorem idF_n {p : En → Bool} {s : Ws} (h : fbW p s = false) : idF p s = -1 := by unfold idF; rw [h]; rfl
attribute [irreducible] idF
end Go.Proofs.YtlhoedpencmikaaDoor
/- Package tlb: slices.Clone of sets, with, Use, Drop, Put, New. -/
namespace Go.Proofs.YtlhoedpencmikaaDoor
open Go.ChangeShapes Go.WideShapes Go.ChangeAt Go.RowKit
set_option linter.unusedVariables false
set_option linter.unusedSimpArgs false
set_option maxRecDepth 10000

theorem clone14_c (A : Option Addr) (L : List St) (c : Nat) (hL : L.length ≤ 1000) (w : World) (hr : RowV KS w A L c) :
    Calls Tryd.prog 60 #[.slice A L.length c] w fun r w' => ∃ v, r = .returned v ∧ w'.ownsRow w.heap.size 55 45 v L.length (KS.flat L) ∧ Ext w w' := by
  rcases A with _ | a
  · obtain ⟨rfl, rfl⟩ := hr.2.1 rfl
    have he : ∀ w : World, (binOp .eql 22 (.slice none 0 0) (.slice none 0 0)).run Tryd.prog w = .ok (.bool true) w := fun _ => rfl
    go_enter Tryd.func60, Tryd.ntmps60
    go_wp2
    go_ret
    exact ⟨_, rfl, World.ownsRow_nil _ _ _ _, Ext.refl _⟩
  · have hcp : ∀ ty, ∃ v' w', (Builtin.append_ #[22, 22] ty #[.slice (some ⟨w.heap.size, 0, none⟩) 0 0, .slice (some a) L.length c]).run Tryd.prog (w.alloc (.cells #[] 55)) = .ok v' w' ∧ w'.ownsRow w.heap.size 55 45 v' L.length (KS.flat L) ∧ Ext w w' := fun ty =>
      copy_row ks_ok w hr (by show L.length * 232 ≤ _; omega) (by unfold maxLen; omega) ty
    have he : ∀ w : World, (binOp .eql 22 (.slice (some a) L.length c) (.slice none 0 0)).run Tryd.prog w = .ok (.bool false) w := fun _ => rfl
    clear hr
    go_enter Tryd.func60, Tryd.ntmps60
    go_wp2_with (at_builtin; refine wpList_append_run' _ rfl _ _ _ rfl _ _ rfl rfl _ (hcp _) ?_; rintro v3 w3 ⟨hown, hE3⟩)
    go_ret
    exact ⟨_, rfl, hown, hE3⟩
theorem with14p_c (A : Option Addr) (L : List St) (c : Nat) (hL : L.length ≤ 1000) (i : Nat) (hi : i < L.length) (s : St) (w : World) (hr : RowV KS w A L c) :
    Calls Tryd.prog 33 #[.agg #[.slice A L.length c], .int .i64 (i : Int), .agg (stC s)] w (MadeT (L.set i s) w) := by
  obtain ⟨W0, hW⟩ : ∃ W0, W0 = ((w.alloc (.cells #[.slice A L.length c] 24)).alloc (.cells (stC s) 55)).alloc (.cells #[.slice none 0 0] 24) := ⟨_, rfl⟩
  have HE : Hid (Ext w W0) := Lib.hid (by rw [hW]; exact (((Ext.refl w).alloc _).alloc _).alloc _)
  have h1 : Blk W0 w.heap.size 24 #[.slice A L.length c] := by rw [hW]; exact ((Blk.new w _ _).alloc _).alloc _
  have h2 : Blk W0 (w.heap.size + 1) 55 (stC s) := by rw [hW]; exact (blk_at (by simp)).alloc _
  have h3 : Blk W0 (w.heap.size + 2) 24 #[.slice none 0 0] := by rw [hW]; exact blk_at (by simp)
  have x0 : W0.cell? ⟨w.heap.size, 0, none⟩ = some (.slice A L.length c) := (h1.cell 0).trans rfl
  have hcl := clone14_c A L c hL W0 (hr.ext HE.out)
  have hsz : w.heap.size + 3 = W0.heap.size := by rw [hW]; simp
  have HW := Lib.hid hW
  rw [hW] at x0
  clear hW hr
  have hiz : (i : Int) < (L.length : Int) := by omega
  go_enter Tryd.func33, Tryd.ntmps33
  go_wp2_with fail
  rw [← HW.out]
  refine hcl.mono ?_
  rintro e w3 ⟨v3, rfl, hown, hE3⟩
  obtain ⟨g0, cap, cur0, es0, rfl, hb0, -, -, -, -⟩ := own_put ks_ok hown hi s
  replace h1 := h1.ext hE3
  replace h2 := (h2.ext hE3).apart (show w.heap.size + 1 ≠ w.heap.size by omega) #[.slice (some ⟨g0, 0, none⟩) L.length cap]
  replace h3 := (h3.ext hE3).apart (show w.heap.size + 2 ≠ w.heap.size by omega) #[.slice (some ⟨g0, 0, none⟩) L.length cap]
  replace hown := own_low hown (show w.heap.size < W0.heap.size by omega) #[.slice (some ⟨g0, 0, none⟩) L.length cap]
  replace HE := Lib.hid ((HE.out.trans hE3).row (Nat.le_refl _) #[.slice (some ⟨g0, 0, none⟩) L.length cap])
  have k1 := h1.row #[.slice (some ⟨g0, 0, none⟩) L.length cap]
  obtain ⟨g, cap', cur, es, hv, hbg, hbk, hfit, hes, hown2⟩ := own_put ks_ok hown hi s
  injection hv with e1 e2 e3
  injection e1 with e1
  injection e1 with e1
  subst e1 e3
  replace hfit : i * 45 + (stC s).size ≤ cur.size := hfit
  replace hes : putAt cur (i * 45) (stC s).toList = es := hes
  replace hbk : Blk (w3.setRow w.heap.size #[.slice (some ⟨g0, 0, none⟩) L.length cap]) g0 55 cur := hbk
  have m1 := k1.apart (show w.heap.size ≠ g0 by omega) es
  have m3 := h3.apart (show w.heap.size + 2 ≠ g0 by omega) es
  replace HE := Lib.hid (HE.out.row (show w.heap.size ≤ g0 by omega) es)
  have hlow := own_low hown2 (show w.heap.size + 2 < W0.heap.size by omega) #[.slice (some ⟨g0, 0, none⟩) L.length cap]
  have HS : (#[.slice A L.length c] : Array Value).setIfInBounds 0 (.slice (some ⟨g0, 0, none⟩) L.length cap) = #[.slice (some ⟨g0, 0, none⟩) L.length cap] := rfl
  have x2 : (w3.setRow w.heap.size #[.slice (some ⟨g0, 0, none⟩) L.length cap]).cell? ⟨w.heap.size, 0, none⟩ = some (.slice (some ⟨g0, 0, none⟩) L.length cap) := (k1.cell 0).trans rfl
  clear hown hE3 hcl
  go_wp2_with (first | (refine wpList_store_cell rfl 22 _ _ rfl rfl rfl h1 (by simp) HS (by kernel_rfl) rfl rfl ?_) | (refine wpList_load_blk (by rfl) 55 _ rfl rfl h2 Tryd.underlying55 rfl (by kernel_rfl) ?_) | (refine wpList_store_part rfl 55 _ _ rfl rfl rfl hbk (hfit) (hes) (st_info _) (stC_one _) ?_) | (refine wpList_load_blk (by rfl) 24 _ rfl rfl m1 Tryd.underlying24 rfl (by kernel_rfl) ?_) | (refine wpList_store_row rfl 24 _ _ rfl _ _ rfl rfl _ _ m3 (by kernel_rfl) (by rfl) (by simp [Value.oneCell']) ?_))
  refine bodyPost_ret (results_cell_row rfl _ _ _ _ _ _ _ rfl ((m3.row _)) Tryd.underlying24 rfl (by kernel_rfl)) rfl ?_
  obtain ⟨A', c', hv, hrow, hnew⟩ := own_rowv ks_ok (L := L.set i s) (by rw [List.length_set]; exact hlow)
  rw [List.length_set] at hv
  injection hv with e1 e2 e3
  subst e1 e3
  exact ⟨_, _, by rw [List.length_set], hrow, fun a h => Nat.le_trans (by omega) (hnew a h), HE.out.row (by omega) _⟩
/-! n zero sets, made at once -/
theorem s0_cells14 : stC s0 = #[.bool false, .int .u64 0, .bool false, .int .i64 0, .int .u64 0, .int .u64 0, .bool false, .bool false, .bool false, .bool false, .bool false, .bool false, .int .u64 0, .bool false, .int .i64 0, .int .u64 0, .int .u64 0, .bool false, .bool false, .bool false, .bool false, .bool false, .bool false, .int .u64 0, .bool false, .int .i64 0, .int .u64 0, .int .u64 0, .bool false, .bool false, .bool false, .bool false, .bool false, .bool false, .int .u64 0, .bool false, .int .i64 0, .int .u64 0, .int .u64 0, .bool false, .bool false, .bool false, .bool false, .bool false, .int .u8 0] := by unfold s0 e0; simp only [stC_eq, wsC_eq, enC_eq, pmC_eq]; rfl
def zsC (n : Nat) : Array Value := madeCells #[.bool false, .int .u64 0, .bool false, .int .i64 0, .int .u64 0, .int .u64 0, .bool false, .bool false, .bool false, .bool false, .bool false, .bool false, .int .u64 0, .bool false, .int .i64 0, .int .u64 0, .int .u64 0, .bool false, .bool false, .bool false, .bool false, .bool false, .bool false, .int .u64 0, .bool false, .int .i64 0, .int .u64 0, .int .u64 0, .bool false, .bool false, .bool false, .bool false, .bool false, .bool false, .int .u64 0, .bool false, .int .i64 0, .int .u64 0, .int .u64 0, .bool false, .bool false, .bool false, .bool false, .bool false, .int .u8 0] (n * 45)
theorem zs_flat (n : Nat) : (zsC n).toList = KS.flat (List.replicate n s0) := by
  have hl : (KS.flat (List.replicate n s0)).length = n * 45 := by
    have := flat_len ks_ok (List.replicate n s0)
    rwa [List.length_replicate] at this
  apply List.ext_getElem?
  intro k
  by_cases hk : k < n * 45
  · have h1 := flat_get ks_ok (List.replicate n s0) (k / 45) (k % 45) (by rw [List.length_replicate]; omega) (by show k % 45 < 45; omega)
    rw [show k / 45 * KS.sz + k % 45 = k by show k / 45 * 45 + k % 45 = k; omega, show (List.replicate n s0).getD (k / 45) KS.d = s0 by
      have : k / 45 < n := by omega
      simp [List.getD, this]] at h1
    rw [h1, show KS.cf s0 = #[.bool false, .int .u64 0, .bool false, .int .i64 0, .int .u64 0, .int .u64 0, .bool false, .bool false, .bool false, .bool false, .bool false, .bool false, .int .u64 0, .bool false, .int .i64 0, .int .u64 0, .int .u64 0, .bool false, .bool false, .bool false, .bool false, .bool false, .bool false, .int .u64 0, .bool false, .int .i64 0, .int .u64 0, .int .u64 0, .bool false, .bool false, .bool false, .bool false, .bool false, .bool false, .int .u64 0, .bool false, .int .i64 0, .int .u64 0, .int .u64 0, .bool false, .bool false, .bool false, .bool false, .bool false, .int .u8 0] from s0_cells14, Array.getElem?_toList]
    have hm : k % 45 < 45 := by omega
    unfold zsC madeCells
    rw [Array.getElem?_map, Array.getElem?_range, if_pos hk]
    simp only [Option.map_some]
    rw [getElem!_pos _ _ (by show k % 45 < 45; omega)]
    exact (Array.getElem?_eq_getElem (by show k % 45 < 45; omega)).symm
  · have h2 : (zsC n).toList.length = n * 45 := by rw [Array.length_toList]; unfold zsC; rw [size_madeCells]
    rw [List.getElem?_eq_none (by rw [h2]; omega), List.getElem?_eq_none (by rw [hl]; omega)]
theorem make_zs (n : Nat) (hn : n ≤ 1000) (W : World) : (Instr.makeSlice 22 (.int .i64 (n : Int)) (.int .i64 (n : Int))).run Tryd.prog W = .ok (.slice (some ⟨W.heap.size, 0, none⟩) n n) (W.alloc (.cells (zsC n) 55)) := by
  obtain ⟨i0, hi, hz0, hz1, hz2⟩ := info_parts (P := Tryd.prog) (e := 55) (z := .agg #[.bool false, .int .u64 0, .bool false, .int .i64 0, .int .u64 0, .int .u64 0, .bool false, .bool false, .bool false, .bool false, .bool false, .bool false, .int .u64 0, .bool false, .int .i64 0, .int .u64 0, .int .u64 0, .bool false, .bool false, .bool false, .bool false, .bool false, .bool false, .int .u64 0, .bool false, .int .i64 0, .int .u64 0, .int .u64 0, .bool false, .bool false, .bool false, .bool false, .bool false, .bool false, .int .u64 0, .bool false, .int .i64 0, .int .u64 0, .int .u64 0, .bool false, .bool false, .bool false, .bool false, .bool false, .int .u8 0]) (size := 45) (bytes := 232) (by kernel_rfl)
  have h := run_make (P := Tryd.prog) W 22 55 i0 _ Tryd.underlying22 hi hz0 .i64 .i64 (n : Int) (n : Int) (by omega) (by omega) (by rw [hz2]; omega) (by omega)
  rw [h, hz1, Int.toNat_natCast]; rfl
theorem zs_row (n : Nat) (hn : n ≤ 1000) (W : World) : RowV KS (W.alloc (.cells (zsC n) 55)) (some ⟨W.heap.size, 0, none⟩) (List.replicate n s0) n := by
  have h := World.ownsRow_lit (base := W.heap.size) (e := KS.e) (size := KS.sz) W (zsC n) n (Nat.le_refl _) (by unfold maxLen; omega) (by unfold zsC; rw [size_madeCells]; rfl)
  rw [zs_flat] at h
  obtain ⟨A, c, hv, hr, -⟩ := own_rowv ks_ok (L := List.replicate n s0) (by rw [List.length_replicate]; exact h)
  rw [List.length_replicate] at hv
  injection hv with e1 e2 e3
  subst e1 e3
  exact hr
attribute [irreducible] zsC
end Go.Proofs.YtlhoedpencmikaaDoor
/- Package tlb: Use, Drop, Put. -/
namespace Go.Proofs.YtlhoedpencmikaaDoor
open Go.ChangeShapes Go.WideShapes Go.ChangeAt Go.RowKit
set_option linter.unusedVariables false
set_option linter.unusedSimpArgs false
set_option maxRecDepth 10000

theorem drop14p_no (A : Option Addr) (n c : Nat) (i v : Int) (hno : ¬ (0 ≤ i ∧ i < n ∧ 0 ≤ v ∧ v ≤ 3)) (w : World) :
    Calls Tryd.prog 20 #[.agg #[.slice A n c], .int .i64 i, .int .i64 v] w fun r w' => r = .returned (.tuple #[.agg #[.slice A n c], .int .i64 1]) ∧ Ext w w' := by
  have h1 : Blk ((w.alloc (.cells #[.slice A n c] 24)).alloc (.cells #[.slice none 0 0] 24)) w.heap.size 24 #[.slice A n c] := (Blk.new w _ _).alloc _
  have h2 : Blk ((w.alloc (.cells #[.slice A n c] 24)).alloc (.cells #[.slice none 0 0] 24)) (w.heap.size + 1) 24 #[.slice none 0 0] := blk_at (by simp)
  have HE := Lib.hid (((Ext.refl w).alloc (.cells #[.slice A n c] 24)).alloc (.cells #[.slice none 0 0] 24))
  have cis := fun w => is14_c A n c i v w
  rw [show (decide (0 ≤ i) && (decide (i < (n : Int)) && (decide (0 ≤ v) && decide (v < 4)))) = false by
    cases h : (decide (0 ≤ i) && (decide (i < (n : Int)) && (decide (0 ≤ v) && decide (v < 4))))
    · rfl
    · simp at h; exact absurd (by omega) hno] at cis
  clear hno
  go_enter Tryd.func20, Tryd.ntmps20
  go_wp2_with ((refine wpList_load_blk (by rfl) 24 _ rfl rfl h1 Tryd.underlying24 rfl (by kernel_rfl) ?_)); refine (cis _).mono ?_; rintro e w' ⟨rfl, hE⟩; (try replace h1 := h1.ext hE); (try replace h2 := h2.ext hE); (try replace HE := Lib.hid (HE.out.trans hE))
  clear hE cis
  go_wp2_with (first | (refine wpList_load_blk (by rfl) 24 _ rfl rfl h1 Tryd.underlying24 rfl (by kernel_rfl) ?_) | (refine wpList_store_row rfl 24 _ _ rfl _ _ rfl rfl _ _ h2 (by kernel_rfl) (by rfl) (by simp [Value.oneCell']) ?_))
  (try simp only [Exit.inBlock, Exit.then]); refine bodyPost_ret (results_c2 rfl _ _ _ _ _ _ rfl ((h2.row _)) rfl Tryd.underlying24 (by kernel_rfl)) rfl ?_
  exact ⟨by first | rfl | simp, HE.out.row (by omega) _⟩
theorem drop14p_c (A : Option Addr) (L : List St) (c : Nat) (hL : L.length ≤ 1000) (i v : Nat) (hi : i < L.length) (hv : v < 4) (w : World) (hr : RowV KS w A L c) (hT : Lays w) :
    Calls Tryd.prog 20 #[.agg #[.slice A L.length c], .int .i64 (i : Int), .int .i64 (v : Int)] w (MadeTI (dropT L i v) 0 w) := by
  have h1 : Blk ((w.alloc (.cells #[.slice A L.length c] 24)).alloc (.cells #[.slice none 0 0] 24)) w.heap.size 24 #[.slice A L.length c] := (Blk.new w _ _).alloc _
  have h2 : Blk ((w.alloc (.cells #[.slice A L.length c] 24)).alloc (.cells #[.slice none 0 0] 24)) (w.heap.size + 1) 24 #[.slice none 0 0] := blk_at (by simp)
  have HE := Lib.hid (((Ext.refl w).alloc (.cells #[.slice A L.length c] 24)).alloc (.cells #[.slice none 0 0] 24))
  obtain ⟨b, off, rfl, hb, hrx⟩ := hr.some (by omega)
  have hrow : ∀ W : World, Ext w W → RowV KS W (some ⟨b, off, none⟩) L c := fun W h => hr.ext h
  have hel : w.rangeAt b (off + i * 45) (stC (sT L i)).toList := by rw [sT_eq]; exact hrx i hi
  have cus := fun w => drop13_c (sT L i) v hv w
  have cwi := fun w h => with14p_c (some ⟨b, off, none⟩) L c hL i hi ((sT L i).put v e0) w h
  rw [dropT_eq L i v] at cwi
  have hlen : (dropT L i v).length = L.length := by rw [← dropT_eq, List.length_set]
  generalize (sT L i).put v e0 = su at cus cwi
  generalize sT L i = s at hel cus
  have hiz : (i : Int) < (L.length : Int) := by omega
  have cis := fun w => is14_c (some ⟨b, off, none⟩) L.length c (i : Int) (v : Int) w
  rw [show (decide (0 ≤ (i : Int)) && (decide ((i : Int) < (L.length : Int)) && (decide (0 ≤ (v : Int)) && decide ((v : Int) < 4)))) = true by simp; omega] at cis
  clear hr hrx
  go_enter Tryd.func20, Tryd.ntmps20
  go_wp2_with ((refine wpList_load_blk (by rfl) 24 _ rfl rfl h1 Tryd.underlying24 rfl (by kernel_rfl) ?_)); refine (cis _).mono ?_; rintro e w' ⟨rfl, hE⟩; (try replace hb := hb.ext hE); (try replace h1 := h1.ext hE); (try replace h2 := h2.ext hE); (try replace HE := Lib.hid (HE.out.trans hE))
  clear hE cis
  go_wp2_with fail
  (try replace hb := Blk.drew hb); (try replace h1 := Blk.drew h1); (try replace h2 := Blk.drew h2); replace HE := Lib.hid HE.out.drew
  refine wp_region_seq [(0, false), (1, false), (2, false), (3, false), (4, false), (5, false), (6, false), (7, false), (8, true), (9, true), (10, true), (11, false)] (Gap (w.heap.size + 1) (w.heap.size + 2)) (by kernel_rfl) (by kernel_rfl) (Gap.refl _ _) (fun _ _ _ => Gap.trans) ?_; simp only [List.map, nth_z, nth_s]
  refine seq_load rfl rfl (fun x hx => Gap.blk hx (h1) (by omega)) rfl Tryd.underlying24 (by kernel_rfl) (by rfl) ?_; intro K hK; simp only [Act.put, List.setIfInBounds_toArray, List.set_cons_zero, List.set_cons_succ]; refine hK _ ?_; clear hK K
  (repeat (first | (refine seq_skip (by rfl) ?_; intro K hK; simp only [Act.put, List.setIfInBounds_toArray, List.set_cons_zero, List.set_cons_succ]; refine hK _ ?_; clear hK K) | (refine seq_skipc (by rfl) ?_; intro K hK; simp only [Act.put, List.setIfInBounds_toArray, List.set_cons_zero, List.set_cons_succ]; refine hK _ ?_; clear hK K) | (refine seq_read (by rfl) (by rfl) ?_; intro K hK; go_big_quiet_op; first | go_big_quiet_on | (refine ⟨_, fun _ _ => rfl, ?_⟩; go_big_quiet_on))))
  refine seq_value (.slice (some ⟨b, off, none⟩) L.length c) (by rfl) (fun x hx => by have hq := ((Gap.blk hx (h1) (by omega)).cell 0).trans (rfl); simp [go_sem, execOp, Act.eval, hq]) ?_; intro K hK; simp only [Act.put, List.setIfInBounds_toArray, List.set_cons_zero, List.set_cons_succ]; refine hK _ ?_; clear hK K
  (repeat (first | (refine seq_skip (by rfl) ?_; intro K hK; simp only [Act.put, List.setIfInBounds_toArray, List.set_cons_zero, List.set_cons_succ]; refine hK _ ?_; clear hK K) | (refine seq_skipc (by rfl) ?_; intro K hK; simp only [Act.put, List.setIfInBounds_toArray, List.set_cons_zero, List.set_cons_succ]; refine hK _ ?_; clear hK K) | (refine seq_read (by rfl) (by rfl) ?_; intro K hK; go_big_quiet_op; first | go_big_quiet_on | (refine ⟨_, fun _ _ => rfl, ?_⟩; go_big_quiet_on))))
  refine seq_load_rng rfl rfl ((fun x hx => rgx_gap hx (rgx_ext HE.out hel) (by omega))) rfl Tryd.underlying55 (st_info _) (by rfl) ?_; intro K hK; simp only [Act.put, List.setIfInBounds_toArray, List.set_cons_zero, List.set_cons_succ]; refine hK _ ?_; clear hK K
  (repeat (first | (refine seq_skip (by rfl) ?_; intro K hK; simp only [Act.put, List.setIfInBounds_toArray, List.set_cons_zero, List.set_cons_succ]; refine hK _ ?_; clear hK K) | (refine seq_skipc (by rfl) ?_; intro K hK; simp only [Act.put, List.setIfInBounds_toArray, List.set_cons_zero, List.set_cons_succ]; refine hK _ ?_; clear hK K) | (refine seq_read (by rfl) (by rfl) ?_; intro K hK; go_big_quiet_op; first | go_big_quiet_on | (refine ⟨_, fun _ _ => rfl, ?_⟩; go_big_quiet_on))))
  refine seq_call (cus _) rfl Tryd.func37 (by kernel_rfl) (by kernel_rfl) (by rfl) (by rfl) ?_; intro K hK; rintro e w' ⟨rfl, hE⟩; refine ⟨_, rfl, (Gap.ext hE), ?_⟩; simp only [Act.put, List.setIfInBounds_toArray, List.set_cons_zero, List.set_cons_succ]; refine hK _ _ ?_; clear hK K; (try replace hb := hb.ext hE); (try replace h1 := h1.ext hE); (try replace h2 := h2.ext hE); (try replace HE := Lib.hid (HE.out.trans hE))
  clear hE
  have l2 := h2.lt
  refine seq_call (cwi _ (hrow _ HE.out)) rfl Tryd.func33 (by kernel_rfl) (by kernel_rfl) (by rfl) (by rfl) ?_; intro K hK; rintro e w' ⟨A2, c2, rfl, hr2, hn2, hE⟩; refine ⟨_, rfl, (Gap.ext hE), ?_⟩; simp only [Act.put, List.setIfInBounds_toArray, List.set_cons_zero, List.set_cons_succ]; refine hK _ _ ?_; clear hK K; (try replace hb := hb.ext hE); (try replace h1 := h1.ext hE); (try replace h2 := h2.ext hE); (try replace HE := Lib.hid (HE.out.trans hE))
  clear hE
  refine seq_store_row rfl rfl rfl (h2) (by kernel_rfl) (by rfl) (by simp [Value.oneCell']) (by rfl) (Gap.row _ (by omega) (by omega) _) ?_; intro K hK; simp only [Act.put, List.setIfInBounds_toArray, List.set_cons_zero, List.set_cons_succ]; refine hK _ _ ?_; clear hK K
  (repeat (first | (refine seq_skip (by rfl) ?_; intro K hK; simp only [Act.put, List.setIfInBounds_toArray, List.set_cons_zero, List.set_cons_succ]; refine hK _ ?_; clear hK K) | (refine seq_skipc (by rfl) ?_; intro K hK; simp only [Act.put, List.setIfInBounds_toArray, List.set_cons_zero, List.set_cons_succ]; refine hK _ ?_; clear hK K) | (refine seq_read (by rfl) (by rfl) ?_; intro K hK; go_big_quiet_op; first | go_big_quiet_on | (refine ⟨_, fun _ _ => rfl, ?_⟩; go_big_quiet_on))))
  refine seq_done ?_
  go_wp2
  (try simp only [Exit.inBlock, Exit.then]); refine bodyPost_ret (results_c2 rfl _ _ _ _ _ _ rfl ((h2.row _)) rfl Tryd.underlying24 (by kernel_rfl)) rfl ?_
  exact ⟨A2, c2, by first | rfl | simp, hr2.row (fun a h => by have := hn2 a h; omega) _, fun a h => by have := hn2 a h; omega, HE.out.row (by omega) _⟩
theorem put14p_nil (A : Option Addr) (c : Nat) (e : En) (v : Int) (w : World) :
    Calls Tryd.prog 18 #[.agg #[.slice A 0 c], .agg (enC e), .int .i64 v] w fun r w' => r = .returned (.agg #[.slice A 0 c]) ∧ Ext w w' := by
  have h1 : Blk (((w.alloc (.cells #[.slice A 0 c] 24)).alloc (.cells (enC e) 52)).alloc (.cells #[.slice none 0 0] 24)) w.heap.size 24 #[.slice A 0 c] := ((Blk.new w _ _).alloc _).alloc _
  have h2 : Blk (((w.alloc (.cells #[.slice A 0 c] 24)).alloc (.cells (enC e) 52)).alloc (.cells #[.slice none 0 0] 24)) (w.heap.size + 2) 24 #[.slice none 0 0] := blk_at (by simp)
  have HE := Lib.hid ((((Ext.refl w).alloc (.cells #[.slice A 0 c] 24)).alloc (.cells (enC e) 52)).alloc (.cells #[.slice none 0 0] 24))
  go_enter Tryd.func18, Tryd.ntmps18
  go_wp2_with (first | (refine wpList_load_blk (by rfl) 24 _ rfl rfl h1 Tryd.underlying24 rfl (by kernel_rfl) ?_) | (refine wpList_store_row rfl 24 _ _ rfl _ _ rfl rfl _ _ h2 (by kernel_rfl) (by rfl) (by simp [Value.oneCell']) ?_))
  refine bodyPost_ret (results_cell_row rfl _ _ _ _ _ _ _ rfl ((h2.row _)) Tryd.underlying24 rfl (by kernel_rfl)) rfl ?_
  exact ⟨by (rfl), HE.out.row (by omega) _⟩
set_option maxHeartbeats 1000000 in
theorem put14p_c (A : Option Addr) (L : List St) (c : Nat) (hL : L.length ≤ 1000) (hp : 0 < L.length) (e : En) (v : Int) (l0 : 0 ≤ e.l) (l2 : e.l ≤ 2) (e1 : e.vp < 18446744073709551616) (ht : (sT L (ixT L.length e.vp e.l)).t < 8) (w : World) (hr : RowV KS w A L c) (hT : Lays w) :
    Calls Tryd.prog 18 #[.agg #[.slice A L.length c], .agg (enC e), .int .i64 v] w (MadeT (putT e v L) w) := by
  obtain ⟨b, off, rfl, hb, hrx⟩ := hr.some hp
  have h1 : Blk (((w.alloc (.cells #[.slice (some ⟨b, off, none⟩) L.length c] 24)).alloc (.cells (enC e) 52)).alloc (.cells #[.slice none 0 0] 24)) w.heap.size 24 #[.slice (some ⟨b, off, none⟩) L.length c] := ((Blk.new w _ _).alloc _).alloc _
  have h2 : Blk (((w.alloc (.cells #[.slice (some ⟨b, off, none⟩) L.length c] 24)).alloc (.cells (enC e) 52)).alloc (.cells #[.slice none 0 0] 24)) (w.heap.size + 1) 52 (enC e) := (blk_at (by simp)).alloc _
  have h3 : Blk (((w.alloc (.cells #[.slice (some ⟨b, off, none⟩) L.length c] 24)).alloc (.cells (enC e) 52)).alloc (.cells #[.slice none 0 0] 24)) (w.heap.size + 2) 24 #[.slice none 0 0] := blk_at (by simp)
  have HE := Lib.hid ((((Ext.refl w).alloc (.cells #[.slice (some ⟨b, off, none⟩) L.length c] 24)).alloc (.cells (enC e) 52)).alloc (.cells #[.slice none 0 0] 24))
  have hx := ix_lt hp (e.vp : Int) e.l
  have cix := fun w => home14_c e l0 l2 e1 L.length hp (by omega) w
  have cpt := fun w h => put13_c (sT L (ixT L.length e.vp e.l)) ht e v w h
  have cwi := fun w h => with14p_c (some ⟨b, off, none⟩) L c hL (ixT L.length e.vp e.l) hx (putS e v (sT L (ixT L.length e.vp e.l))) w h
  rw [← putT_pos hp] at cwi
  have hlen := putT_len e v L
  have hrow : ∀ W : World, Ext w W → RowV KS W (some ⟨b, off, none⟩) L c := fun W h => hr.ext h
  have hel : w.rangeAt b (off + ixT L.length e.vp e.l * 45) (stC (sT L (ixT L.length e.vp e.l))).toList := by rw [sT_eq]; exact hrx _ hx
  generalize wayS e v (sT L (ixT L.length e.vp e.l)) = j at cpt
  generalize putS e v (sT L (ixT L.length e.vp e.l)) = su at cpt cwi
  generalize sT L (ixT L.length e.vp e.l) = s at hel cpt
  generalize ixT L.length e.vp e.l = i at *
  generalize putT e v L = M at *
  have hiz : (i : Int) < (L.length : Int) := by omega
  have h0 : ((L.length : Int) == 0) = false := by rw [beq_eq_false_iff_ne]; omega
  have x3 := h2.en_l
  have x4 := h2.en_vp
  clear hr hrx ht
  go_enter Tryd.func18, Tryd.ntmps18
  go_wp2_with (refine wpList_load_blk (by rfl) 52 _ rfl rfl h2 Tryd.underlying52 rfl (by kernel_rfl) ?_)
  refine (cix _).mono ?_
  rintro r1 W0 ⟨rfl, hE⟩
  replace h1 := h1.ext hE; replace h2 := h2.ext hE; replace h3 := h3.ext hE; (replace HE := Lib.hid (HE.out.trans hE))
  clear hE cix x3 x4
  go_wp2_with fail
  replace h1 := Blk.drew h1
  replace h2 := Blk.drew h2
  replace h3 := Blk.drew h3
  replace HE := Lib.hid HE.out.drew
  refine wp_region_fork [(0, false), (1, false), (2, false), (3, false), (4, false), (5, false), (6, false)] 7 [(8, false), (9, false), (10, false), (11, true), (12, true), (13, false)] 11 [(7, true), (8, false), (9, false), (10, false), (12, true), (13, false)] (Below W0.drew.heap.size) (by kernel_rfl) (by kernel_rfl) (Below.refl _) (fun _ _ _ => Below.trans) ?_
  simp only [List.map, nth_z, nth_s]
  have hs0 : W0.drew.heap.size ≤ W0.drew.heap.size := Nat.le_refl _
  have q1 := h1.lt
  have q2 := h2.lt
  have q3 := h3.lt
  have hbB : b < W0.drew.heap.size := by omega
  generalize hBB : W0.drew.heap.size = B at q1 q2 q3 hs0 hbB ⊢
  rw [← hBB] at hs0
  generalize W0.drew = wd at *
  rw [hBB] at hs0
  replace hs0 : B ≤ wd.heap.size := by omega
  clear hBB
  apply cut_frk (fun g W => Blk W w.heap.size 24 #[.slice (some ⟨b, off, none⟩) L.length c] ∧ Blk W (w.heap.size + 2) 24 #[.slice none 0 0] ∧ Blk W g 55 (stC su) ∧ w.heap.size + 2 < g ∧ Ext w W)
  case h =>
    intro key
    (repeat ((refine seq_read (by rfl) (by rfl) ?_; intro K hK; go_big_quiet_op; (refine ⟨_, fun _ _ => rfl, ?_⟩; go_big_quiet_on))))
    refine seq_value ((.slice (some ⟨b, off, none⟩) L.length c)) (by rfl) (fun x hx => by have hq := (Below.cell hx (p := ⟨w.heap.size, 0, none⟩) (by simp; omega)).trans ((h1.cell 0).trans rfl); simp [go_sem, execOp, Act.eval, hq]) ?_; intro K hK; simp only [Act.put, List.setIfInBounds_toArray, List.set_cons_zero, List.set_cons_succ]; refine hK _ ?_; clear hK K
    (repeat ((refine seq_read (by rfl) (by rfl) ?_; intro K hK; go_big_quiet_op; first | go_big_quiet_on | (refine ⟨_, fun _ _ => rfl, ?_⟩; go_big_quiet_on))))
    refine seq_load_rng rfl rfl ((fun x hx => rgx_below hx hbB (rgx_ext HE.out hel))) rfl Tryd.underlying55 (st_info _) (by rfl) ?_; intro K hK; simp only [Act.put, List.setIfInBounds_toArray, List.set_cons_zero, List.set_cons_succ]; refine hK _ ?_; clear hK K
    refine seq_load rfl rfl (fun x hx => Blk.lower (h2) hx (by omega)) rfl Tryd.underlying52 (by kernel_rfl) (by rfl) ?_; intro K hK; simp only [Act.put, List.setIfInBounds_toArray, List.set_cons_zero, List.set_cons_succ]; refine hK _ ?_; clear hK K
    (repeat ((refine seq_read (by rfl) (by rfl) ?_; intro K hK; go_big_quiet_op; (go_big_quiet_on))))
    refine seq_done ?_
    refine ⟨?_, ?_⟩
    · skip
      refine seq_call (cpt _ (hT.ext HE.out)) rfl Tryd.func32 (by kernel_rfl) (by kernel_rfl) (by rfl) (by rfl) ?_; intro K hK; rintro e w' ⟨rfl, hE⟩; refine ⟨_, rfl, (Below.mono hE hs0), ?_⟩; simp only [Act.put, List.setIfInBounds_toArray, List.set_cons_zero, List.set_cons_succ]; refine hK _ _ ?_; clear hK K
      replace h1 := h1.ext hE
      replace h2 := h2.ext hE
      replace h3 := h3.ext hE
      replace HE := Lib.hid (HE.out.trans hE)
      replace hs0 := Nat.le_trans hs0 hE.size
      skip
      clear hE
      (repeat ((refine seq_read (by rfl) (by rfl) ?_; intro K hK; go_big_quiet_op; first | go_big_quiet_on | (refine ⟨_, fun _ _ => rfl, ?_⟩; go_big_quiet_on))))
      have hn := Blk.new w' 55 #[.bool false, .int .u64 0, .bool false, .int .i64 0, .int .u64 0, .int .u64 0, .bool false, .bool false, .bool false, .bool false, .bool false, .bool false, .int .u64 0, .bool false, .int .i64 0, .int .u64 0, .int .u64 0, .bool false, .bool false, .bool false, .bool false, .bool false, .bool false, .int .u64 0, .bool false, .int .i64 0, .int .u64 0, .int .u64 0, .bool false, .bool false, .bool false, .bool false, .bool false, .bool false, .int .u64 0, .bool false, .int .i64 0, .int .u64 0, .int .u64 0, .bool false, .bool false, .bool false, .bool false, .bool false, .int .u8 0]
      have hgB : B ≤ w'.heap.size := hs0
      refine seq_run (.pointer (some ⟨w'.heap.size, 0, none⟩)) (w'.alloc (.cells #[.bool false, .int .u64 0, .bool false, .int .i64 0, .int .u64 0, .int .u64 0, .bool false, .bool false, .bool false, .bool false, .bool false, .bool false, .int .u64 0, .bool false, .int .i64 0, .int .u64 0, .int .u64 0, .bool false, .bool false, .bool false, .bool false, .bool false, .bool false, .int .u64 0, .bool false, .int .i64 0, .int .u64 0, .int .u64 0, .bool false, .bool false, .bool false, .bool false, .bool false, .bool false, .int .u64 0, .bool false, .int .i64 0, .int .u64 0, .int .u64 0, .bool false, .bool false, .bool false, .bool false, .bool false, .int .u8 0] 55)) (by rfl) ?_ ((Below.refl _ _).alloc hs0 _) ?_; (simp [go_sem, execOp]); intro K hK; simp only [Act.put, List.setIfInBounds_toArray, List.set_cons_zero, List.set_cons_succ]; refine hK _ _ ?_; clear hK K
      have hE := (Ext.refl w').alloc (.cells #[.bool false, .int .u64 0, .bool false, .int .i64 0, .int .u64 0, .int .u64 0, .bool false, .bool false, .bool false, .bool false, .bool false, .bool false, .int .u64 0, .bool false, .int .i64 0, .int .u64 0, .int .u64 0, .bool false, .bool false, .bool false, .bool false, .bool false, .bool false, .int .u64 0, .bool false, .int .i64 0, .int .u64 0, .int .u64 0, .bool false, .bool false, .bool false, .bool false, .bool false, .bool false, .int .u64 0, .bool false, .int .i64 0, .int .u64 0, .int .u64 0, .bool false, .bool false, .bool false, .bool false, .bool false, .int .u8 0] 55)
      have hgw : w.heap.size ≤ w'.heap.size := HE.out.size
      replace h1 := h1.ext hE
      replace h2 := h2.ext hE
      replace h3 := h3.ext hE
      replace HE := Lib.hid (HE.out.trans hE)
      replace hs0 := Nat.le_trans hs0 hE.size
      clear hE
      generalize w'.alloc (.cells #[.bool false, .int .u64 0, .bool false, .int .i64 0, .int .u64 0, .int .u64 0, .bool false, .bool false, .bool false, .bool false, .bool false, .bool false, .int .u64 0, .bool false, .int .i64 0, .int .u64 0, .int .u64 0, .bool false, .bool false, .bool false, .bool false, .bool false, .bool false, .int .u64 0, .bool false, .int .i64 0, .int .u64 0, .int .u64 0, .bool false, .bool false, .bool false, .bool false, .bool false, .bool false, .int .u64 0, .bool false, .int .i64 0, .int .u64 0, .int .u64 0, .bool false, .bool false, .bool false, .bool false, .bool false, .int .u8 0] 55) = WA at *
      generalize w'.heap.size = gq at *
      skip
      refine seq_store_row rfl rfl rfl (hn) (st_info _) (by simp [stC_size]) (stC_one _) (by rfl) ((below_row (Below.refl _ _) hgB _)) ?_; intro K hK; simp only [Act.put]; refine hK _ _ ?_; clear hK K
      (repeat ((refine seq_read (by rfl) (by rfl) ?_; intro K hK; go_big_quiet_op; (go_big_quiet_on))))
      refine seq_done ?_
      have hm := hn.row (stC su)
      replace h1 := h1.apart (k := gq) (by omega) (stC su)
      replace h2 := h2.apart (k := gq) (by omega) (stC su)
      replace h3 := h3.apart (k := gq) (by omega) (stC su)
      replace HE := Lib.hid (Ext.row HE.out hgw (stC su))
      generalize WA.setRow gq (stC su) = WF at *
      exact key gq WF ⟨h1, h3, hm, (by omega), HE.out⟩
    · skip
      have hn := Blk.new wd 55 #[.bool false, .int .u64 0, .bool false, .int .i64 0, .int .u64 0, .int .u64 0, .bool false, .bool false, .bool false, .bool false, .bool false, .bool false, .int .u64 0, .bool false, .int .i64 0, .int .u64 0, .int .u64 0, .bool false, .bool false, .bool false, .bool false, .bool false, .bool false, .int .u64 0, .bool false, .int .i64 0, .int .u64 0, .int .u64 0, .bool false, .bool false, .bool false, .bool false, .bool false, .bool false, .int .u64 0, .bool false, .int .i64 0, .int .u64 0, .int .u64 0, .bool false, .bool false, .bool false, .bool false, .bool false, .int .u8 0]
      have hgB : B ≤ wd.heap.size := hs0
      refine seq_run (.pointer (some ⟨wd.heap.size, 0, none⟩)) (wd.alloc (.cells #[.bool false, .int .u64 0, .bool false, .int .i64 0, .int .u64 0, .int .u64 0, .bool false, .bool false, .bool false, .bool false, .bool false, .bool false, .int .u64 0, .bool false, .int .i64 0, .int .u64 0, .int .u64 0, .bool false, .bool false, .bool false, .bool false, .bool false, .bool false, .int .u64 0, .bool false, .int .i64 0, .int .u64 0, .int .u64 0, .bool false, .bool false, .bool false, .bool false, .bool false, .bool false, .int .u64 0, .bool false, .int .i64 0, .int .u64 0, .int .u64 0, .bool false, .bool false, .bool false, .bool false, .bool false, .int .u8 0] 55)) (by rfl) ?_ ((Below.refl _ _).alloc hs0 _) ?_; (simp [go_sem, execOp]); intro K hK; simp only [Act.put, List.setIfInBounds_toArray, List.set_cons_zero, List.set_cons_succ]; refine hK _ _ ?_; clear hK K
      have hE := (Ext.refl wd).alloc (.cells #[.bool false, .int .u64 0, .bool false, .int .i64 0, .int .u64 0, .int .u64 0, .bool false, .bool false, .bool false, .bool false, .bool false, .bool false, .int .u64 0, .bool false, .int .i64 0, .int .u64 0, .int .u64 0, .bool false, .bool false, .bool false, .bool false, .bool false, .bool false, .int .u64 0, .bool false, .int .i64 0, .int .u64 0, .int .u64 0, .bool false, .bool false, .bool false, .bool false, .bool false, .bool false, .int .u64 0, .bool false, .int .i64 0, .int .u64 0, .int .u64 0, .bool false, .bool false, .bool false, .bool false, .bool false, .int .u8 0] 55)
      have hgw : w.heap.size ≤ wd.heap.size := HE.out.size
      replace h1 := h1.ext hE
      replace h2 := h2.ext hE
      replace h3 := h3.ext hE
      replace HE := Lib.hid (HE.out.trans hE)
      replace hs0 := Nat.le_trans hs0 hE.size
      clear hE
      generalize wd.alloc (.cells #[.bool false, .int .u64 0, .bool false, .int .i64 0, .int .u64 0, .int .u64 0, .bool false, .bool false, .bool false, .bool false, .bool false, .bool false, .int .u64 0, .bool false, .int .i64 0, .int .u64 0, .int .u64 0, .bool false, .bool false, .bool false, .bool false, .bool false, .bool false, .int .u64 0, .bool false, .int .i64 0, .int .u64 0, .int .u64 0, .bool false, .bool false, .bool false, .bool false, .bool false, .bool false, .int .u64 0, .bool false, .int .i64 0, .int .u64 0, .int .u64 0, .bool false, .bool false, .bool false, .bool false, .bool false, .int .u8 0] 55) = WA at *
      generalize wd.heap.size = gq at *
      refine seq_call (cpt _ (hT.ext HE.out)) rfl Tryd.func32 (by kernel_rfl) (by kernel_rfl) (by rfl) (by rfl) ?_; intro K hK; rintro e w' ⟨rfl, hE⟩; refine ⟨_, rfl, (Below.mono hE hs0), ?_⟩; simp only [Act.put, List.setIfInBounds_toArray, List.set_cons_zero, List.set_cons_succ]; refine hK _ _ ?_; clear hK K
      replace h1 := h1.ext hE
      replace h2 := h2.ext hE
      replace h3 := h3.ext hE
      replace HE := Lib.hid (HE.out.trans hE)
      replace hs0 := Nat.le_trans hs0 hE.size
      replace hn := hn.ext hE
      clear hE
      (repeat ((refine seq_read (by rfl) (by rfl) ?_; intro K hK; go_big_quiet_op; first | go_big_quiet_on | (refine ⟨_, fun _ _ => rfl, ?_⟩; go_big_quiet_on))))
      refine seq_store_row rfl rfl rfl (hn) (st_info _) (by simp [stC_size]) (stC_one _) (by rfl) ((below_row (Below.refl _ _) hgB _)) ?_; intro K hK; simp only [Act.put]; refine hK _ _ ?_; clear hK K
      (repeat ((refine seq_read (by rfl) (by rfl) ?_; intro K hK; go_big_quiet_op; (go_big_quiet_on))))
      refine seq_done ?_
      have hm := hn.row (stC su)
      replace h1 := h1.apart (k := gq) (by omega) (stC su)
      replace h2 := h2.apart (k := gq) (by omega) (stC su)
      replace h3 := h3.apart (k := gq) (by omega) (stC su)
      replace HE := Lib.hid (Ext.row HE.out hgw (stC su))
      generalize w'.setRow gq (stC su) = WF at *
      exact key gq WF ⟨h1, h3, hm, (by omega), HE.out⟩
  intro g4 WN hkk
  clear h1 h2 h3 HE q1 q2 q3 hbB hs0 cpt hel
  obtain ⟨h1, h3, h4, d34, hE⟩ := hkk
  have HE := Lib.hid hE
  clear hE
  go_wp2_with (first | (refine wpList_load_blk (by rfl) 24 _ rfl rfl h1 Tryd.underlying24 rfl (by kernel_rfl) ?_) | (refine wpList_load_blk (by rfl) 55 _ rfl rfl h4 Tryd.underlying55 rfl (by kernel_rfl) ?_))
  refine (cwi _ (hrow _ HE.out)).mono ?_
  rintro e2 w2 ⟨A2, c2, rfl, hr2, hn2, hE⟩
  have q3 := h3.lt
  replace h3 := h3.ext hE
  replace HE := Lib.hid (HE.out.trans hE)
  clear hE h1 h4
  go_wp2_with (refine wpList_store_row rfl 24 _ _ rfl _ _ rfl rfl _ _ h3 (by kernel_rfl) (by rfl) (by simp [Value.oneCell']) ?_)
  refine bodyPost_ret (results_cell_row rfl _ _ _ _ _ _ _ rfl ((h3.row _)) Tryd.underlying24 rfl (by kernel_rfl)) rfl ?_
  exact ⟨A2, c2, by (simp [hlen]), hr2.row (fun a h => by have := hn2 a h; omega) _, fun a h => by have := hn2 a h; omega, HE.out.row (by omega) _⟩
end Go.Proofs.YtlhoedpencmikaaDoor
/- Package tlb: Find, All. -/
namespace Go.Proofs.YtlhoedpencmikaaDoor
open Go.ChangeShapes Go.WideShapes Go.ChangeAt Go.RowKit
set_option linter.unusedVariables false
set_option linter.unusedSimpArgs false
set_option maxRecDepth 10000
attribute [local irreducible] World.setRow World.alloc Blk

end Go.Proofs.YtlhoedpencmikaaDoor
