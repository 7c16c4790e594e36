/- The document's answers for layer 14 (package atlasref14): Index, With, Use, Put, Drop. -/
import Derived.Test.YtlimipjfdecbfaaDoorMtlba
import Derived.Test.YtlimipjfdecbfaaDoorWide
import Derived.Test.YtlimipjfdecbfaaDoorRthirb
import Derived.Test.YtlimipjfdecbfaaDoorOpen13
namespace Go.Proofs.YtlimipjfdecbfaaDoor
open Go.ChangeShapes Go.WideShapes Go.ChangeAt Go.RowKit
set_option linter.unusedVariables false
set_option linter.unusedSimpArgs false
set_option maxRecDepth 10000

/-- sets in a row -/
def KS : Wide St := ⟨46, 35, 45, 232, stC, s0⟩
theorem ks_ok : WideOk KS := ⟨stC_size, stC_one, by decide, Tryd.underlying35, ⟨.agg #[.bool false, .int .u64 0, .bool false, .int .i64 0, .int .u64 0, .int .u64 0, .bool false, .bool false, .bool false, .bool false, .bool false, .bool false, .int .u64 0, .bool false, .int .i64 0, .int .u64 0, .int .u64 0, .bool false, .bool false, .bool false, .bool false, .bool false, .bool false, .int .u64 0, .bool false, .int .i64 0, .int .u64 0, .int .u64 0, .bool false, .bool false, .bool false, .bool false, .bool false, .bool false, .int .u64 0, .bool false, .int .i64 0, .int .u64 0, .int .u64 0, .bool false, .bool false, .bool false, .bool false, .bool false, .int .u8 0], by kernel_rfl, rfl⟩⟩
/-- entries in a row -/
def KE : Wide En := ⟨28, 47, 11, 56, enC, e0⟩
theorem ke_ok : WideOk KE := ⟨enC_size, enC_one, by decide, Tryd.underlying47, ⟨.agg #[.bool false, .int .u64 0, .bool false, .int .i64 0, .int .u64 0, .int .u64 0, .bool false, .bool false, .bool false, .bool false, .bool false], by kernel_rfl, rfl⟩⟩
theorem ix_eq {n : Nat} (hn : 0 < n) {v l : Int} (v0 : 0 ≤ v) (hp : 0 < pagI l) : ((ixT n v l : Nat) : Int) = v / pagI l % (n : Int) := by
  unfold ixT
  have := Int.emod_nonneg (v / pagI l) (show (n : Int) ≠ 0 by omega)
  omega
theorem rindex14_c (n : Nat) (hn : 0 < n) (hn2 : n ≤ 9223372036854775807) (v l : Int) (v0 : 0 ≤ v) (v1 : v < 18446744073709551616) (l0 : 0 ≤ l) (l2 : l ≤ 2) (w : World) :
    Calls Tryd.prog 31 #[.int .i64 (n : Int), .int .u64 v, .int .i64 l] w fun r w' => r = .returned (.int .i64 ((ixT n v l : Nat) : Int)) ∧ w = w' := by
  have hpg := fun w => rpages_c l l0 l2 w
  have hlt := ix_lt hn v l
  have he := ix_eq hn (l := l) v0 (by have := (pag_pos l0 l2).1; omega)
  rcases pag_three l0 l2 with hp | hp | hp
  all_goals
    rw [hp] at hpg he
    clear hp
    replace he := he.symm
    (try rw [Int.ediv_one] at he)
    generalize ixT n v l = x at *
    go_enter Tryd.func31, Tryd.ntmps31
    go_wp2_with fail
    refine (hpg _).mono ?_
    rintro e w' ⟨rfl, rfl⟩
    go_wp2
    go_ret
    exact ⟨rfl, rfl⟩
/-- what a call that answers a buffer leaves -/
def MadeT (L : List St) (w : World) (r : Ending) (w' : World) : Prop := ∃ A c, r = .returned (.agg #[.slice A L.length c]) ∧ RowV KS w' A L c ∧ (∀ a, A = some a → w.heap.size ≤ a.block) ∧ Ext w w'
theorem with14_c (A : Option Addr) (L : List St) (c : Nat) (hL : L.length ≤ 1000) (i : Nat) (hi : i < L.length) (s : St) (w : World) (hr : RowV KS w A L c) :
    Calls Tryd.prog 38 #[.agg #[.slice A L.length c], .int .i64 (i : Int), .agg (stC s)] w (MadeT (L.set i s) w) := by
  obtain ⟨W0, hW⟩ : ∃ W0, W0 = ((w.alloc (.cells #[.slice A L.length c] 37)).alloc (.cells (stC s) 46)).alloc (.cells #[.slice none 0 0] 37) := ⟨_, rfl⟩
  have HE : Hid (Ext w W0) := Lib.hid (by rw [hW]; exact (((Ext.refl w).alloc _).alloc _).alloc _)
  have h1 : Blk W0 w.heap.size 37 #[.slice A L.length c] := by rw [hW]; exact ((Blk.new w _ _).alloc _).alloc _
  have x0 : (W0.alloc (.cells #[] 46)).cell? ⟨w.heap.size, 0, none⟩ = some (.slice A L.length c) := ((h1.alloc _).cell 0).trans rfl
  have h2 : Blk W0 (w.heap.size + 1) 46 (stC s) := by rw [hW]; exact (blk_at (by simp)).alloc _
  have h3 : Blk W0 (w.heap.size + 2) 37 #[.slice none 0 0] := by rw [hW]; exact blk_at (by simp)
  have hcp : ∀ ty W4, W4 = W0.alloc (.cells #[] 46) → ∃ v' w', (Builtin.append_ #[35, 35] ty #[.slice (some ⟨W0.heap.size, 0, none⟩) 0 0, .slice A L.length c]).run Tryd.prog W4 = .ok v' w' ∧ w'.ownsRow W0.heap.size 46 45 v' L.length (KS.flat L) ∧ Ext W0 w' := fun ty W4 h4 => by
    subst h4
    exact copy_row ks_ok W0 (hr.ext HE.out) (by show L.length * 232 ≤ _; omega) (by unfold maxLen; omega) ty
  have hsz : w.heap.size + 3 = W0.heap.size := by rw [hW]; simp
  have hnx : w.heap.size + 1 + 1 + 1 = W0.heap.size := by omega
  have HW := Lib.hid hW
  rw [hW] at x0
  clear hW hr
  go_enter Tryd.func38, Tryd.ntmps38
  have hiz : (i : Int) < (L.length : Int) := by omega
  clear hnx
  go_wp2_with (first | (at_builtin; refine wpList_append_run' _ rfl _ _ _ rfl _ _ rfl rfl _ (hcp _ _ (by rw [HW.out])) ?_; rintro v3 w3 ⟨hown, hE3⟩; obtain ⟨g, cap, cur, es, rfl, hbg, hbk, hfit, hes, hown2⟩ := own_put ks_ok hown hi s; replace hfit : i * 45 + (stC s).size ≤ cur.size := hfit; replace hes : putAt cur (i * 45) (stC s).toList = es := hes; replace hbk : Blk w3 g 46 cur := hbk; have k2 := h2.ext hE3; have k3 := (h3.ext hE3).apart (show w.heap.size + 2 ≠ g by omega) es; replace HE := Lib.hid ((HE.out.trans hE3).row (show w.heap.size ≤ g by omega) es); clear hown hE3 h1 h2 h3 hcp) | (refine wpList_load_blk (by rfl) 46 _ rfl rfl k2 Tryd.underlying46 rfl (by kernel_rfl) ?_) | (refine wpList_store_part rfl 46 _ _ rfl rfl rfl hbk (hfit) (hes) (st_info _) (stC_one _) ?_) | (refine wpList_store_row rfl 37 _ _ rfl _ _ rfl rfl _ _ k3 (by kernel_rfl) (by rfl) (by simp [Value.oneCell']) ?_))
  (try simp only [Exit.inBlock, Exit.then]); refine bodyPost_ret (results_cell_row rfl _ _ _ _ _ _ _ rfl ((k3.row _)) Tryd.underlying37 rfl (by kernel_rfl)) rfl ?_
  have hown3 := own_low hown2 (show w.heap.size + 2 < W0.heap.size by omega) #[.slice (some ⟨g, 0, none⟩) L.length cap]
  obtain ⟨A', c', hv, hrow, hnew⟩ := own_rowv ks_ok (L := L.set i s) (by rw [List.length_set]; exact hown3)
  rw [List.length_set] at hv
  injection hv with e1 e2 e3
  subst e1 e3
  exact ⟨_, _, by rw [List.length_set], hrow, fun a h => Nat.le_trans (by omega) (hnew a h), HE.out.row (by omega) _⟩
theorem sT_eq (L : List St) (i : Nat) : sT L i = L.getD i s0 := by unfold sT; rfl
theorem useT_eq (L : List St) (i w : Nat) : L.set i ⟨(sT L i).ws, toN (sT L i).t w⟩ = useT L i w := by unfold useT; rfl
theorem dropT_eq (L : List St) (i w : Nat) : L.set i ((sT L i).put w e0) = dropT L i w := by unfold dropT; rfl
def MadeTI (L : List St) (k : Int) (w : World) (r : Ending) (w' : World) : Prop := ∃ A c, r = .returned (.tuple #[.agg #[.slice A L.length c], .int .i64 k]) ∧ RowV KS w' A L c ∧ (∀ a, A = some a → w.heap.size ≤ a.block) ∧ Ext w w'
end Go.Proofs.YtlimipjfdecbfaaDoor
/- The document's answers for layer 14: Put, Same. -/
namespace Go.Proofs.YtlimipjfdecbfaaDoor
open Go.ChangeShapes Go.WideShapes Go.ChangeAt Go.RowKit
set_option linter.unusedVariables false
set_option linter.unusedSimpArgs false
set_option maxRecDepth 10000

/-- several walks with one end: the end is shown once, whatever block and world the walk has come to -/
theorem cut_frk {F : Nat → World → Prop} (A : Nat → World → Prop) {G : Prop} (h : (∀ g W, A g W → F g W) → G) (k : ∀ g W, A g W → F g W) : G := h k
theorem rput14_nil (A : Option Addr) (c : Nat) (e : En) (v : Int) (w : World) :
    Calls Tryd.prog 27 #[.agg #[.slice A 0 c], .agg (enC e), .int .i64 v] w fun r w' => r = .returned (.agg #[.slice A 0 c]) ∧ Ext w w' := by
  have h1 : Blk (((w.alloc (.cells #[.slice A 0 c] 37)).alloc (.cells (enC e) 28)).alloc (.cells #[.slice none 0 0] 37)) w.heap.size 37 #[.slice A 0 c] := ((Blk.new w _ _).alloc _).alloc _
  have h2 : Blk (((w.alloc (.cells #[.slice A 0 c] 37)).alloc (.cells (enC e) 28)).alloc (.cells #[.slice none 0 0] 37)) (w.heap.size + 2) 37 #[.slice none 0 0] := blk_at (by simp)
  have HE := Lib.hid ((((Ext.refl w).alloc (.cells #[.slice A 0 c] 37)).alloc (.cells (enC e) 28)).alloc (.cells #[.slice none 0 0] 37))
  go_enter Tryd.func27, Tryd.ntmps27
  go_wp2_with (first | (refine wpList_load_blk (by rfl) 37 _ rfl rfl h1 Tryd.underlying37 rfl (by kernel_rfl) ?_) | (refine wpList_store_row rfl 37 _ _ rfl _ _ rfl rfl _ _ h2 (by kernel_rfl) (by rfl) (by simp [Value.oneCell']) ?_))
  (try simp only [Exit.inBlock, Exit.then]); refine bodyPost_ret (results_cell_row rfl _ _ _ _ _ _ _ rfl ((h2.row _)) Tryd.underlying37 rfl (by kernel_rfl)) rfl ?_
  exact ⟨by first | rfl | simp, HE.out.row (by omega) _⟩
set_option maxHeartbeats 1000000 in
theorem rput14_c (A : Option Addr) (L : List St) (c : Nat) (hL : L.length ≤ 1000) (hp : 0 < L.length) (e : En) (v : Int) (l0 : 0 ≤ e.l) (l2 : e.l ≤ 2) (e1 : e.vp < 18446744073709551616) (ht : (sT L (ixT L.length e.vp e.l)).t < 8) (w : World) (hr : RowV KS w A L c) :
    Calls Tryd.prog 27 #[.agg #[.slice A L.length c], .agg (enC e), .int .i64 v] w (MadeT (putT e v L) w) := by
  obtain ⟨b, off, rfl, hb, hrx⟩ := hr.some hp
  have h1 : Blk (((w.alloc (.cells #[.slice (some ⟨b, off, none⟩) L.length c] 37)).alloc (.cells (enC e) 28)).alloc (.cells #[.slice none 0 0] 37)) w.heap.size 37 #[.slice (some ⟨b, off, none⟩) L.length c] := ((Blk.new w _ _).alloc _).alloc _
  have h2 : Blk (((w.alloc (.cells #[.slice (some ⟨b, off, none⟩) L.length c] 37)).alloc (.cells (enC e) 28)).alloc (.cells #[.slice none 0 0] 37)) (w.heap.size + 1) 28 (enC e) := (blk_at (by simp)).alloc _
  have h3 : Blk (((w.alloc (.cells #[.slice (some ⟨b, off, none⟩) L.length c] 37)).alloc (.cells (enC e) 28)).alloc (.cells #[.slice none 0 0] 37)) (w.heap.size + 2) 37 #[.slice none 0 0] := blk_at (by simp)
  have HE := Lib.hid ((((Ext.refl w).alloc (.cells #[.slice (some ⟨b, off, none⟩) L.length c] 37)).alloc (.cells (enC e) 28)).alloc (.cells #[.slice none 0 0] 37))
  have hx := ix_lt hp (e.vp : Int) e.l
  have cix := fun w => rindex14_c L.length hp (by omega) (e.vp : Int) e.l (by omega) (by omega) l0 l2 w
  have cpt := fun w => rput13_c (sT L (ixT L.length e.vp e.l)) ht e v w
  have cwi := fun w h => with14_c (some ⟨b, off, none⟩) L c hL (ixT L.length e.vp e.l) hx (putS e v (sT L (ixT L.length e.vp e.l))) w h
  rw [← putT_pos hp] at cwi
  have hlen := putT_len e v L
  have hrow : ∀ W : World, Ext w W → RowV KS W (some ⟨b, off, none⟩) L c := fun W h => hr.ext h
  have hel : w.rangeAt b (off + ixT L.length e.vp e.l * 45) (stC (sT L (ixT L.length e.vp e.l))).toList := by rw [sT_eq]; exact hrx _ hx
  generalize wayS e v (sT L (ixT L.length e.vp e.l)) = j at cpt
  generalize putS e v (sT L (ixT L.length e.vp e.l)) = su at cpt cwi
  generalize sT L (ixT L.length e.vp e.l) = s at hel cpt
  generalize ixT L.length e.vp e.l = i at *
  generalize putT e v L = M at *
  have hiz : (i : Int) < (L.length : Int) := by omega
  have h0 : ((L.length : Int) == 0) = false := by rw [beq_eq_false_iff_ne]; omega
  have x3 := h2.en_l
  have x4 := h2.en_vp
  clear hr hrx ht
  go_enter Tryd.func27, Tryd.ntmps27
  go_wp2_with fail
  refine (cix _).mono ?_
  rintro e1 w' ⟨rfl, rfl⟩
  clear cix x3 x4
  go_wp2_with fail
  generalize hWW : ((w.alloc (.cells #[.slice (some ⟨b, off, none⟩) L.length c] 37)).alloc (.cells (enC e) 28)).alloc (.cells #[.slice none 0 0] 37) = W0 at h1 h2 h3 HE ⊢
  clear hWW
  replace h1 := Blk.drew h1
  replace h2 := Blk.drew h2
  replace h3 := Blk.drew h3
  replace HE := Lib.hid HE.out.drew
  refine wp_region_fork [(0, false), (1, false), (2, false), (3, false), (4, false), (5, false), (6, false)] 7 [(8, false), (9, false), (10, false), (11, true), (12, true), (13, false)] 11 [(7, true), (8, false), (9, false), (10, false), (12, true), (13, false)] (Below W0.drew.heap.size) (by kernel_rfl) (by kernel_rfl) (Below.refl _) (fun _ _ _ => Below.trans) ?_
  simp only [List.map, nth_z, nth_s]
  have hs0 : W0.drew.heap.size ≤ W0.drew.heap.size := Nat.le_refl _
  have q1 := h1.lt
  have q2 := h2.lt
  have q3 := h3.lt
  have hbB : b < W0.drew.heap.size := by omega
  generalize hBB : W0.drew.heap.size = B at q1 q2 q3 hs0 hbB ⊢
  rw [← hBB] at hs0
  generalize W0.drew = wd at *
  rw [hBB] at hs0
  replace hs0 : B ≤ wd.heap.size := by omega
  clear hBB
  apply cut_frk (fun g W => Blk W w.heap.size 37 #[.slice (some ⟨b, off, none⟩) L.length c] ∧ Blk W (w.heap.size + 2) 37 #[.slice none 0 0] ∧ Blk W g 46 (stC su) ∧ w.heap.size + 2 < g ∧ Ext w W)
  case h =>
    intro key
    (repeat (first | (refine seq_skip (by rfl) ?_; intro K hK; simp only [Act.put, List.setIfInBounds_toArray, List.set_cons_zero, List.set_cons_succ]; refine hK _ ?_; clear hK K) | (refine seq_skipc (by rfl) ?_; intro K hK; simp only [Act.put, List.setIfInBounds_toArray, List.set_cons_zero, List.set_cons_succ]; refine hK _ ?_; clear hK K) | (refine seq_read (by rfl) (by rfl) ?_; intro K hK; go_big_quiet_op; first | go_big_quiet_on | (refine ⟨_, fun _ _ => rfl, ?_⟩; go_big_quiet_on))))
    refine seq_value ((.slice (some ⟨b, off, none⟩) L.length c)) (by rfl) (fun x hx => by have hq := (Below.cell hx (p := ⟨w.heap.size, 0, none⟩) (by simp; omega)).trans ((h1.cell 0).trans rfl); simp [go_sem, execOp, Act.eval, hq]) ?_; intro K hK; simp only [Act.put, List.setIfInBounds_toArray, List.set_cons_zero, List.set_cons_succ]; refine hK _ ?_; clear hK K
    (repeat (first | (refine seq_skip (by rfl) ?_; intro K hK; simp only [Act.put, List.setIfInBounds_toArray, List.set_cons_zero, List.set_cons_succ]; refine hK _ ?_; clear hK K) | (refine seq_skipc (by rfl) ?_; intro K hK; simp only [Act.put, List.setIfInBounds_toArray, List.set_cons_zero, List.set_cons_succ]; refine hK _ ?_; clear hK K) | (refine seq_read (by rfl) (by rfl) ?_; intro K hK; go_big_quiet_op; first | go_big_quiet_on | (refine ⟨_, fun _ _ => rfl, ?_⟩; go_big_quiet_on))))
    refine seq_load_rng rfl rfl ((fun x hx => rgx_below hx hbB (rgx_ext HE.out hel))) rfl Tryd.underlying46 (st_info _) (by rfl) ?_; intro K hK; simp only [Act.put, List.setIfInBounds_toArray, List.set_cons_zero, List.set_cons_succ]; refine hK _ ?_; clear hK K
    refine seq_load rfl rfl (fun x hx => Blk.lower (h2) hx (by omega)) rfl Tryd.underlying28 (by kernel_rfl) (by rfl) ?_; intro K hK; simp only [Act.put, List.setIfInBounds_toArray, List.set_cons_zero, List.set_cons_succ]; refine hK _ ?_; clear hK K
    (repeat (first | (refine seq_skip (by rfl) ?_; intro K hK; simp only [Act.put, List.setIfInBounds_toArray, List.set_cons_zero, List.set_cons_succ]; refine hK _ ?_; clear hK K) | (refine seq_skipc (by rfl) ?_; intro K hK; simp only [Act.put, List.setIfInBounds_toArray, List.set_cons_zero, List.set_cons_succ]; refine hK _ ?_; clear hK K) | (refine seq_read (by rfl) (by rfl) ?_; intro K hK; go_big_quiet_op; first | go_big_quiet_on | (refine ⟨_, fun _ _ => rfl, ?_⟩; go_big_quiet_on))))
    refine seq_done ?_
    refine ⟨?_, ?_⟩
    · skip
      refine seq_call (cpt _) rfl Tryd.func37 (by kernel_rfl) (by kernel_rfl) (by rfl) (by rfl) ?_; intro K hK; rintro e w' ⟨rfl, hE⟩; refine ⟨_, rfl, (Below.mono hE hs0), ?_⟩; simp only [Act.put, List.setIfInBounds_toArray, List.set_cons_zero, List.set_cons_succ]; refine hK _ _ ?_; clear hK K
      replace h1 := h1.ext hE
      replace h2 := h2.ext hE
      replace h3 := h3.ext hE
      replace HE := Lib.hid (HE.out.trans hE)
      replace hs0 := Nat.le_trans hs0 hE.size
      try replace hn := hn.ext hE
      clear hE
      (repeat (first | (refine seq_skip (by rfl) ?_; intro K hK; simp only [Act.put, List.setIfInBounds_toArray, List.set_cons_zero, List.set_cons_succ]; refine hK _ ?_; clear hK K) | (refine seq_skipc (by rfl) ?_; intro K hK; simp only [Act.put, List.setIfInBounds_toArray, List.set_cons_zero, List.set_cons_succ]; refine hK _ ?_; clear hK K) | (refine seq_read (by rfl) (by rfl) ?_; intro K hK; go_big_quiet_op; first | go_big_quiet_on | (refine ⟨_, fun _ _ => rfl, ?_⟩; go_big_quiet_on))))
      have hn := Blk.new w' 46 #[.bool false, .int .u64 0, .bool false, .int .i64 0, .int .u64 0, .int .u64 0, .bool false, .bool false, .bool false, .bool false, .bool false, .bool false, .int .u64 0, .bool false, .int .i64 0, .int .u64 0, .int .u64 0, .bool false, .bool false, .bool false, .bool false, .bool false, .bool false, .int .u64 0, .bool false, .int .i64 0, .int .u64 0, .int .u64 0, .bool false, .bool false, .bool false, .bool false, .bool false, .bool false, .int .u64 0, .bool false, .int .i64 0, .int .u64 0, .int .u64 0, .bool false, .bool false, .bool false, .bool false, .bool false, .int .u8 0]
      have hgB : B ≤ w'.heap.size := hs0
      refine seq_run (.pointer (some ⟨w'.heap.size, 0, none⟩)) (w'.alloc (.cells #[.bool false, .int .u64 0, .bool false, .int .i64 0, .int .u64 0, .int .u64 0, .bool false, .bool false, .bool false, .bool false, .bool false, .bool false, .int .u64 0, .bool false, .int .i64 0, .int .u64 0, .int .u64 0, .bool false, .bool false, .bool false, .bool false, .bool false, .bool false, .int .u64 0, .bool false, .int .i64 0, .int .u64 0, .int .u64 0, .bool false, .bool false, .bool false, .bool false, .bool false, .bool false, .int .u64 0, .bool false, .int .i64 0, .int .u64 0, .int .u64 0, .bool false, .bool false, .bool false, .bool false, .bool false, .int .u8 0] 46)) (by rfl) ?_ ((Below.refl _ _).alloc hs0 _) ?_; (simp [go_sem, execOp, Act.eval]); intro K hK; simp only [Act.put, List.setIfInBounds_toArray, List.set_cons_zero, List.set_cons_succ]; refine hK _ _ ?_; clear hK K
      have hE := (Ext.refl w').alloc (.cells #[.bool false, .int .u64 0, .bool false, .int .i64 0, .int .u64 0, .int .u64 0, .bool false, .bool false, .bool false, .bool false, .bool false, .bool false, .int .u64 0, .bool false, .int .i64 0, .int .u64 0, .int .u64 0, .bool false, .bool false, .bool false, .bool false, .bool false, .bool false, .int .u64 0, .bool false, .int .i64 0, .int .u64 0, .int .u64 0, .bool false, .bool false, .bool false, .bool false, .bool false, .bool false, .int .u64 0, .bool false, .int .i64 0, .int .u64 0, .int .u64 0, .bool false, .bool false, .bool false, .bool false, .bool false, .int .u8 0] 46)
      have hgw : w.heap.size ≤ w'.heap.size := HE.out.size
      replace h1 := h1.ext hE
      replace h2 := h2.ext hE
      replace h3 := h3.ext hE
      replace HE := Lib.hid (HE.out.trans hE)
      replace hs0 := Nat.le_trans hs0 hE.size
      clear hE
      generalize w'.alloc (.cells #[.bool false, .int .u64 0, .bool false, .int .i64 0, .int .u64 0, .int .u64 0, .bool false, .bool false, .bool false, .bool false, .bool false, .bool false, .int .u64 0, .bool false, .int .i64 0, .int .u64 0, .int .u64 0, .bool false, .bool false, .bool false, .bool false, .bool false, .bool false, .int .u64 0, .bool false, .int .i64 0, .int .u64 0, .int .u64 0, .bool false, .bool false, .bool false, .bool false, .bool false, .bool false, .int .u64 0, .bool false, .int .i64 0, .int .u64 0, .int .u64 0, .bool false, .bool false, .bool false, .bool false, .bool false, .int .u8 0] 46) = WA at *
      generalize w'.heap.size = gq at *
      (repeat (first | (refine seq_skip (by rfl) ?_; intro K hK; simp only [Act.put, List.setIfInBounds_toArray, List.set_cons_zero, List.set_cons_succ]; refine hK _ ?_; clear hK K) | (refine seq_skipc (by rfl) ?_; intro K hK; simp only [Act.put, List.setIfInBounds_toArray, List.set_cons_zero, List.set_cons_succ]; refine hK _ ?_; clear hK K) | (refine seq_read (by rfl) (by rfl) ?_; intro K hK; go_big_quiet_op; first | go_big_quiet_on | (refine ⟨_, fun _ _ => rfl, ?_⟩; go_big_quiet_on))))
      refine seq_store_row rfl rfl rfl (hn) (st_info _) (by simp [stC_size]) (stC_one _) (by rfl) ((below_row (Below.refl _ _) hgB _)) ?_; intro K hK; simp only [Act.put, List.setIfInBounds_toArray, List.set_cons_zero, List.set_cons_succ]; refine hK _ _ ?_; clear hK K
      (repeat (first | (refine seq_skip (by rfl) ?_; intro K hK; simp only [Act.put, List.setIfInBounds_toArray, List.set_cons_zero, List.set_cons_succ]; refine hK _ ?_; clear hK K) | (refine seq_skipc (by rfl) ?_; intro K hK; simp only [Act.put, List.setIfInBounds_toArray, List.set_cons_zero, List.set_cons_succ]; refine hK _ ?_; clear hK K) | (refine seq_read (by rfl) (by rfl) ?_; intro K hK; go_big_quiet_op; first | go_big_quiet_on | (refine ⟨_, fun _ _ => rfl, ?_⟩; go_big_quiet_on))))
      refine seq_done ?_
      have hm := hn.row (stC su)
      replace h1 := h1.apart (k := gq) (by omega) (stC su)
      replace h2 := h2.apart (k := gq) (by omega) (stC su)
      replace h3 := h3.apart (k := gq) (by omega) (stC su)
      replace HE := Lib.hid (Ext.row HE.out hgw (stC su))
      generalize WA.setRow gq (stC su) = WF at *
      exact key gq WF ⟨h1, h3, hm, (by omega), HE.out⟩
    · skip
      have hn := Blk.new wd 46 #[.bool false, .int .u64 0, .bool false, .int .i64 0, .int .u64 0, .int .u64 0, .bool false, .bool false, .bool false, .bool false, .bool false, .bool false, .int .u64 0, .bool false, .int .i64 0, .int .u64 0, .int .u64 0, .bool false, .bool false, .bool false, .bool false, .bool false, .bool false, .int .u64 0, .bool false, .int .i64 0, .int .u64 0, .int .u64 0, .bool false, .bool false, .bool false, .bool false, .bool false, .bool false, .int .u64 0, .bool false, .int .i64 0, .int .u64 0, .int .u64 0, .bool false, .bool false, .bool false, .bool false, .bool false, .int .u8 0]
      have hgB : B ≤ wd.heap.size := hs0
      refine seq_run (.pointer (some ⟨wd.heap.size, 0, none⟩)) (wd.alloc (.cells #[.bool false, .int .u64 0, .bool false, .int .i64 0, .int .u64 0, .int .u64 0, .bool false, .bool false, .bool false, .bool false, .bool false, .bool false, .int .u64 0, .bool false, .int .i64 0, .int .u64 0, .int .u64 0, .bool false, .bool false, .bool false, .bool false, .bool false, .bool false, .int .u64 0, .bool false, .int .i64 0, .int .u64 0, .int .u64 0, .bool false, .bool false, .bool false, .bool false, .bool false, .bool false, .int .u64 0, .bool false, .int .i64 0, .int .u64 0, .int .u64 0, .bool false, .bool false, .bool false, .bool false, .bool false, .int .u8 0] 46)) (by rfl) ?_ ((Below.refl _ _).alloc hs0 _) ?_; (simp [go_sem, execOp, Act.eval]); intro K hK; simp only [Act.put, List.setIfInBounds_toArray, List.set_cons_zero, List.set_cons_succ]; refine hK _ _ ?_; clear hK K
      have hE := (Ext.refl wd).alloc (.cells #[.bool false, .int .u64 0, .bool false, .int .i64 0, .int .u64 0, .int .u64 0, .bool false, .bool false, .bool false, .bool false, .bool false, .bool false, .int .u64 0, .bool false, .int .i64 0, .int .u64 0, .int .u64 0, .bool false, .bool false, .bool false, .bool false, .bool false, .bool false, .int .u64 0, .bool false, .int .i64 0, .int .u64 0, .int .u64 0, .bool false, .bool false, .bool false, .bool false, .bool false, .bool false, .int .u64 0, .bool false, .int .i64 0, .int .u64 0, .int .u64 0, .bool false, .bool false, .bool false, .bool false, .bool false, .int .u8 0] 46)
      have hgw : w.heap.size ≤ wd.heap.size := HE.out.size
      replace h1 := h1.ext hE
      replace h2 := h2.ext hE
      replace h3 := h3.ext hE
      replace HE := Lib.hid (HE.out.trans hE)
      replace hs0 := Nat.le_trans hs0 hE.size
      clear hE
      generalize wd.alloc (.cells #[.bool false, .int .u64 0, .bool false, .int .i64 0, .int .u64 0, .int .u64 0, .bool false, .bool false, .bool false, .bool false, .bool false, .bool false, .int .u64 0, .bool false, .int .i64 0, .int .u64 0, .int .u64 0, .bool false, .bool false, .bool false, .bool false, .bool false, .bool false, .int .u64 0, .bool false, .int .i64 0, .int .u64 0, .int .u64 0, .bool false, .bool false, .bool false, .bool false, .bool false, .bool false, .int .u64 0, .bool false, .int .i64 0, .int .u64 0, .int .u64 0, .bool false, .bool false, .bool false, .bool false, .bool false, .int .u8 0] 46) = WA at *
      generalize wd.heap.size = gq at *
      refine seq_call (cpt _) rfl Tryd.func37 (by kernel_rfl) (by kernel_rfl) (by rfl) (by rfl) ?_; intro K hK; rintro e w' ⟨rfl, hE⟩; refine ⟨_, rfl, (Below.mono hE hs0), ?_⟩; simp only [Act.put, List.setIfInBounds_toArray, List.set_cons_zero, List.set_cons_succ]; refine hK _ _ ?_; clear hK K
      replace h1 := h1.ext hE
      replace h2 := h2.ext hE
      replace h3 := h3.ext hE
      replace HE := Lib.hid (HE.out.trans hE)
      replace hs0 := Nat.le_trans hs0 hE.size
      try replace hn := hn.ext hE
      clear hE
      (repeat (first | (refine seq_skip (by rfl) ?_; intro K hK; simp only [Act.put, List.setIfInBounds_toArray, List.set_cons_zero, List.set_cons_succ]; refine hK _ ?_; clear hK K) | (refine seq_skipc (by rfl) ?_; intro K hK; simp only [Act.put, List.setIfInBounds_toArray, List.set_cons_zero, List.set_cons_succ]; refine hK _ ?_; clear hK K) | (refine seq_read (by rfl) (by rfl) ?_; intro K hK; go_big_quiet_op; first | go_big_quiet_on | (refine ⟨_, fun _ _ => rfl, ?_⟩; go_big_quiet_on))))
      refine seq_store_row rfl rfl rfl (hn) (st_info _) (by simp [stC_size]) (stC_one _) (by rfl) ((below_row (Below.refl _ _) hgB _)) ?_; intro K hK; simp only [Act.put, List.setIfInBounds_toArray, List.set_cons_zero, List.set_cons_succ]; refine hK _ _ ?_; clear hK K
      (repeat (first | (refine seq_skip (by rfl) ?_; intro K hK; simp only [Act.put, List.setIfInBounds_toArray, List.set_cons_zero, List.set_cons_succ]; refine hK _ ?_; clear hK K) | (refine seq_skipc (by rfl) ?_; intro K hK; simp only [Act.put, List.setIfInBounds_toArray, List.set_cons_zero, List.set_cons_succ]; refine hK _ ?_; clear hK K) | (refine seq_read (by rfl) (by rfl) ?_; intro K hK; go_big_quiet_op; first | go_big_quiet_on | (refine ⟨_, fun _ _ => rfl, ?_⟩; go_big_quiet_on))))
      refine seq_done ?_
      have hm := hn.row (stC su)
      replace h1 := h1.apart (k := gq) (by omega) (stC su)
      replace h2 := h2.apart (k := gq) (by omega) (stC su)
      replace h3 := h3.apart (k := gq) (by omega) (stC su)
      replace HE := Lib.hid (Ext.row HE.out hgw (stC su))
      generalize w'.setRow gq (stC su) = WF at *
      exact key gq WF ⟨h1, h3, hm, (by omega), HE.out⟩
  intro g4 WN hkk
  clear h1 h2 h3 HE q1 q2 q3 hbB hs0 cpt hel
  obtain ⟨h1, h3, h4, d34, hE⟩ := hkk
  have HE := Lib.hid hE
  clear hE
  go_wp2_with (first | (refine wpList_load_blk (by rfl) 37 _ rfl rfl h1 Tryd.underlying37 rfl (by kernel_rfl) ?_) | (refine wpList_load_blk (by rfl) 46 _ rfl rfl h4 Tryd.underlying46 rfl (by kernel_rfl) ?_))
  refine (cwi _ (hrow _ HE.out)).mono ?_
  rintro e2 w2 ⟨A2, c2, rfl, hr2, hn2, hE⟩
  have q3 := h3.lt
  replace h3 := h3.ext hE
  replace HE := Lib.hid (HE.out.trans hE)
  clear hE h1 h4
  go_wp2_with (refine wpList_store_row rfl 37 _ _ rfl _ _ rfl rfl _ _ h3 (by kernel_rfl) (by rfl) (by simp [Value.oneCell']) ?_)
  (try simp only [Exit.inBlock, Exit.then]); refine bodyPost_ret (results_cell_row rfl _ _ _ _ _ _ _ rfl ((h3.row _)) Tryd.underlying37 rfl (by kernel_rfl)) rfl ?_
  exact ⟨A2, c2, by first | rfl | simp [hlen], hr2.row (fun a h => by have := hn2 a h; omega) _, fun a h => by have := hn2 a h; omega, HE.out.row (by omega) _⟩
theorem list_st {L M : List St} (hl : L.length = M.length) (h : ∀ j, j < L.length → sT L j = sT M j) : L = M := by
  apply List.ext_getElem hl
  intro i h1 h2
  have := h i h1
  rw [sT_eq, sT_eq] at this
  simpa [List.getD, h1, h2] using this
set_option maxRecDepth 100000 in
set_option maxHeartbeats 1000000 in
theorem rsame14_c (A B : Option Addr) (L M : List St) (c d : Nat) (hL : L.length ≤ 1000) (hM : M.length ≤ 1000) (w : World) (hr : RowV KS w A L c) (hq : RowV KS w B M d) :
    Calls Tryd.prog 17 #[.agg #[.slice A L.length c], .agg #[.slice B M.length d]] w fun r w' => r = .returned (.bool (decide (L = M))) ∧ Ext w w' := by
  obtain ⟨h1, h2⟩ := blk_two (Ext.refl ((w.alloc (.cells #[.slice A L.length c] 37)).alloc (.cells #[.slice B M.length d] 37)))
  have HE := Lib.hid (((Ext.refl w).alloc (.cells #[.slice A L.length c] 37)).alloc (.cells #[.slice B M.length d] 37))
  by_cases hl : L.length = M.length
  · have hne : ((L.length : Int) != (M.length : Int)) = false := by rw [hl]; simp
    have hrow : ∀ W : World, Ext w W → RowV KS W A L c := fun W h => hr.ext h
    have hrq : ∀ W : World, Ext w W → RowV KS W B M d := fun W h => hq.ext h
    have HD : (∀ j, j < L.length → sT L j = sT M j) → decide (L = M) = true := fun h => decide_eq_true (list_st hl h)
    have HN : ∀ j, decide (sT L j = sT M j) = false → decide (L = M) = false := fun j h => decide_eq_false fun e => by rw [e] at h; simp at h
    generalize decide (L = M) = D at HD HN ⊢
    have HL := Lib.hid hl
    clear hr hq hl
    go_enter Tryd.func17, Tryd.ntmps17
    go_wp2
    go_loopw [5] (fun i wr => ∃ k : Nat, k ≤ L.length ∧ i = .int .i64 k ∧ Hid (∀ j, j < k → sT L j = sT M j) ∧ Blk wr w.heap.size 37 #[.slice A L.length c] ∧ Blk wr (w.heap.size + 1) 37 #[.slice B M.length d] ∧ Ext w wr) (fun i _ => (L.length - intOf i).toNat)
    case atStart => exact ⟨0, by omega, rfl, Lib.hid (fun j hj => absurd hj (by omega)), h1, h2, HE.out⟩
    case round =>
      clear h1 h2 HE
      obtain ⟨k, hk, rfl, I, h1, h2, hE⟩ := hrel
      have HE := Lib.hid hE
      clear hE
      by_cases hlt : k < L.length
      · have hkz : (k : Int) < (L.length : Int) := by omega
        have hkm : (k : Int) < (M.length : Int) := by have := HL.out; omega
        have hd := HN k
        have IK : decide (sT L k = sT M k) = true → Hid (∀ j, j < k + 1 → sT L j = sT M j) := fun h => Lib.hid fun j hj => by
          rcases Nat.lt_or_ge j k with h1 | h1
          · exact I.out j h1
          · obtain rfl : j = k := by omega
            exact of_decide_eq_true h
        obtain ⟨b, off, rfl, hb, hrx⟩ := (hrow _ HE.out).some (by omega)
        obtain ⟨b2, off2, rfl, hb2, hrx2⟩ := (hrq _ HE.out).some (by have := HL.out; omega)
        have e1 : wr.rangeAt b (off + k * 45) (stC (sT L k)).toList := by rw [sT_eq]; exact hrx k hlt
        have e2 : wr.rangeAt b2 (off2 + k * 45) (stC (sT M k)).toList := by rw [sT_eq]; exact hrx2 k (by have := HL.out; omega)
        have hnq : ∀ w, (binOp .neq 46 (.agg (stC (sT L k))) (.agg (stC (sT M k)))).run Tryd.prog w = .ok (.bool (!decide (sT L k = sT M k))) w := fun w => neq_st w _ _
        clear HD HN I hrx hrx2 hrow hrq
        generalize decide (sT L k = sT M k) = B at *
        generalize sT L k = s at *
        generalize sT M k = t at *
        have x1 : wr.cell? ⟨w.heap.size, 0, none⟩ = some (.slice (some ⟨b, off, none⟩) L.length c) := (h1.cell 0).trans rfl
        go_wp2_with fail
        clear x1
        replace h1 := Blk.drew h1
        replace h2 := Blk.drew h2
        replace HE := Lib.hid HE.out.drew
        refine wp_region_seq [(0, false), (1, false), (2, false), (3, false), (4, false), (5, false), (6, false), (7, false), (8, false), (9, false), (10, false)] Ext (by kernel_rfl) (by kernel_rfl) Ext.refl (fun _ _ _ => Ext.trans) ?_; simp only [List.map, nth_z, nth_s]
        (try simp only [Act.put, List.setIfInBounds_toArray, List.set_cons_zero, List.set_cons_succ])
        (repeat (first | (refine seq_skip (by rfl) ?_; intro K hK; simp only [Act.put, List.setIfInBounds_toArray, List.set_cons_zero, List.set_cons_succ]; refine hK _ ?_; clear hK K) | (refine seq_skipc (by rfl) ?_; intro K hK; simp only [Act.put, List.setIfInBounds_toArray, List.set_cons_zero, List.set_cons_succ]; refine hK _ ?_; clear hK K) | (refine seq_read (by rfl) (by rfl) ?_; intro K hK; go_big_quiet_op; first | go_big_quiet_on | (refine ⟨_, fun _ _ => rfl, ?_⟩; go_big_quiet_on))))
        refine seq_value ((.slice (some ⟨b, off, none⟩) L.length c)) (by rfl) (fun x hx => by have hq := ext_cell hx ((h1.cell 0).trans rfl); simp [go_sem, execOp, Act.eval, hq]) ?_; intro K hK; simp only [Act.put, List.setIfInBounds_toArray, List.set_cons_zero, List.set_cons_succ]; refine hK _ ?_; clear hK K
        (repeat (first | (refine seq_skip (by rfl) ?_; intro K hK; simp only [Act.put, List.setIfInBounds_toArray, List.set_cons_zero, List.set_cons_succ]; refine hK _ ?_; clear hK K) | (refine seq_skipc (by rfl) ?_; intro K hK; simp only [Act.put, List.setIfInBounds_toArray, List.set_cons_zero, List.set_cons_succ]; refine hK _ ?_; clear hK K) | (refine seq_read (by rfl) (by rfl) ?_; intro K hK; go_big_quiet_op; first | go_big_quiet_on | (refine ⟨_, fun _ _ => rfl, ?_⟩; go_big_quiet_on))))
        refine seq_load_rng rfl rfl ((fun x hx => rgx_ext hx e1)) rfl Tryd.underlying46 (st_info _) (by rfl) ?_; intro K hK; simp only [Act.put, List.setIfInBounds_toArray, List.set_cons_zero, List.set_cons_succ]; refine hK _ ?_; clear hK K
        (repeat (first | (refine seq_skip (by rfl) ?_; intro K hK; simp only [Act.put, List.setIfInBounds_toArray, List.set_cons_zero, List.set_cons_succ]; refine hK _ ?_; clear hK K) | (refine seq_skipc (by rfl) ?_; intro K hK; simp only [Act.put, List.setIfInBounds_toArray, List.set_cons_zero, List.set_cons_succ]; refine hK _ ?_; clear hK K) | (refine seq_read (by rfl) (by rfl) ?_; intro K hK; go_big_quiet_op; first | go_big_quiet_on | (refine ⟨_, fun _ _ => rfl, ?_⟩; go_big_quiet_on))))
        refine seq_value ((.slice (some ⟨b2, off2, none⟩) M.length d)) (by rfl) (fun x hx => by have hq := ext_cell hx ((h2.cell 0).trans rfl); simp [go_sem, execOp, Act.eval, hq]) ?_; intro K hK; simp only [Act.put, List.setIfInBounds_toArray, List.set_cons_zero, List.set_cons_succ]; refine hK _ ?_; clear hK K
        (repeat (first | (refine seq_skip (by rfl) ?_; intro K hK; simp only [Act.put, List.setIfInBounds_toArray, List.set_cons_zero, List.set_cons_succ]; refine hK _ ?_; clear hK K) | (refine seq_skipc (by rfl) ?_; intro K hK; simp only [Act.put, List.setIfInBounds_toArray, List.set_cons_zero, List.set_cons_succ]; refine hK _ ?_; clear hK K) | (refine seq_read (by rfl) (by rfl) ?_; intro K hK; go_big_quiet_op; first | go_big_quiet_on | (refine ⟨_, fun _ _ => rfl, ?_⟩; go_big_quiet_on))))
        refine seq_load_rng rfl rfl ((fun x hx => rgx_ext hx e2)) rfl Tryd.underlying46 (st_info _) (by rfl) ?_; intro K hK; simp only [Act.put, List.setIfInBounds_toArray, List.set_cons_zero, List.set_cons_succ]; refine hK _ ?_; clear hK K
        refine seq_cmp rfl rfl rfl (st_guard) (hnq) (by rfl) ?_; intro K hK; simp only [Act.put, List.setIfInBounds_toArray, List.set_cons_zero, List.set_cons_succ]; refine hK _ ?_; clear hK K
        refine seq_done ?_
        clear hnq e1 e2
        cases B
        · have HZ := Lib.hid (hd rfl)
          clear IK hd
          go_wp2
          go_ret
          exact ⟨by rw [HZ.out]; rfl, HE.out⟩
        · have I2 := IK rfl
          clear IK hd
          go_wp2
          go_roundw
          case rel => exact ⟨k + 1, by omega, by go_num, I2, h1, h2, HE.out⟩
          case measure => simp [intOf]; omega
      · obtain rfl : k = L.length := by omega
        have HZ := Lib.hid (HD I.out)
        have x1 : wr.cell? ⟨w.heap.size, 0, none⟩ = some (.slice A L.length c) := (h1.cell 0).trans rfl
        clear HD HN I
        go_wp2
        go_ret
        exact ⟨by rw [HZ.out]; rfl, HE.out⟩
  · have hne : ((L.length : Int) != (M.length : Int)) = true := by simp; omega
    have hno : decide (L = M) = false := decide_eq_false fun e => hl (by rw [e])
    rw [hno]
    clear hr hq hno
    go_enter Tryd.func17, Tryd.ntmps17
    go_wp2
    go_ret
    exact ⟨rfl, HE.out⟩
end Go.Proofs.YtlimipjfdecbfaaDoor
