/- The document's answers for layer 14 (package atlasref14): Index, With, Use, Put, Drop. -/
import Derived.Test.YtlhoedpencmikaaGreatDoorGmtlb
import Derived.Test.YtlhoedpencmikaaGreatDoorWide
import Derived.Test.YtlhoedpencmikaaGreatDoorGrthir
import Derived.Test.YtlhoedpencmikaaGreatDoorOpen13
import Derived.Deep.Cut
namespace Go.Proofs.YtlhoedpencmikaaGreatDoor
open Go.ChangeShapes Go.WideShapes Go.ChangeAt Go.RowKit
set_option linter.unusedVariables false
set_option linter.unusedSimpArgs false
set_option maxRecDepth 10000

/-- sets in a row -/
def KS : Wide St := ⟨69, 22, 45, 232, stC, s0⟩
theorem ks_ok : WideOk KS := ⟨stC_size, stC_one, by decide, Tryz.underlying22, ⟨.agg #[.bool false, .int .u64 0, .bool false, .int .i64 0, .int .u64 0, .int .u64 0, .bool false, .bool false, .bool false, .bool false, .bool false, .bool false, .int .u64 0, .bool false, .int .i64 0, .int .u64 0, .int .u64 0, .bool false, .bool false, .bool false, .bool false, .bool false, .bool false, .int .u64 0, .bool false, .int .i64 0, .int .u64 0, .int .u64 0, .bool false, .bool false, .bool false, .bool false, .bool false, .bool false, .int .u64 0, .bool false, .int .i64 0, .int .u64 0, .int .u64 0, .bool false, .bool false, .bool false, .bool false, .bool false, .int .u8 0], by kernel_rfl, rfl⟩⟩
/-- entries in a row -/
def KE : Wide En := ⟨66, 70, 11, 56, enC, e0⟩
theorem ke_ok : WideOk KE := ⟨enC_size, enC_one, by decide, Tryz.underlying70, ⟨.agg #[.bool false, .int .u64 0, .bool false, .int .i64 0, .int .u64 0, .int .u64 0, .bool false, .bool false, .bool false, .bool false, .bool false], by kernel_rfl, rfl⟩⟩
def MadeT (L : List St) (w : World) (r : Ending) (w' : World) : Prop := ∃ A c, r = .returned (.agg #[.slice A L.length c]) ∧ RowV KS w' A L c ∧ (∀ a, A = some a → w.heap.size ≤ a.block) ∧ Ext w w'
theorem ix_eq {n : Nat} (hn : 0 < n) {v l : Int} (v0 : 0 ≤ v) (hp : 0 < pagI l) : ((ixT n v l : Nat) : Int) = v / pagI l % (n : Int) := by
  unfold ixT
  have := Int.emod_nonneg (v / pagI l) (show (n : Int) ≠ 0 by omega)
  omega
theorem rindex14_c (n : Nat) (hn : 0 < n) (hn2 : n ≤ 9223372036854775807) (v l : Int) (v0 : 0 ≤ v) (v1 : v < 18446744073709551616) (l0 : 0 ≤ l) (l2 : l ≤ 2) (w : World) :
    Calls Tryz.prog 64 #[.int .i64 (n : Int), .int .u64 v, .int .i64 l] w fun r w' => r = .returned (.int .i64 ((ixT n v l : Nat) : Int)) ∧ w = w' := by
  have hpg := fun w => rpages_c l l0 l2 w
  have hlt := ix_lt hn v l
  have he := ix_eq hn (l := l) v0 (by have := (pag_pos l0 l2).1; omega)
  rcases pag_three l0 l2 with hp | hp | hp
  all_goals
    rw [hp] at hpg he
    clear hp
    replace he := he.symm
    (try rw [Int.ediv_one] at he)
    generalize ixT n v l = x at *
    go_enter Tryz.func64, Tryz.ntmps64
    go_wp2_with fail
    refine (hpg _).mono ?_
    rintro e w' ⟨rfl, rfl⟩
    go_wp2
    go_ret
    exact ⟨rfl, rfl⟩
/-- what a call that answers a buffer leaves -/
theorem with14_c (A : Option Addr) (L : List St) (c : Nat) (hL : L.length ≤ 1000) (i : Nat) (hi : i < L.length) (s : St) (w : World) (hr : RowV KS w A L c) :
    Calls Tryz.prog 66 #[.agg #[.slice A L.length c], .int .i64 (i : Int), .agg (stC s)] w (MadeT (L.set i s) w) := by
  obtain ⟨W0, hW⟩ : ∃ W0, W0 = ((w.alloc (.cells #[.slice A L.length c] 24)).alloc (.cells (stC s) 69)).alloc (.cells #[.slice none 0 0] 24) := ⟨_, rfl⟩
  have HE : Hid (Ext w W0) := Lib.hid (by rw [hW]; exact (((Ext.refl w).alloc _).alloc _).alloc _)
  have h1 : Blk W0 w.heap.size 24 #[.slice A L.length c] := by rw [hW]; exact ((Blk.new w _ _).alloc _).alloc _
  have x0 : (W0.alloc (.cells #[] 69)).cell? ⟨w.heap.size, 0, none⟩ = some (.slice A L.length c) := ((h1.alloc _).cell 0).trans rfl
  have h2 : Blk W0 (w.heap.size + 1) 69 (stC s) := by rw [hW]; exact (blk_at (by simp)).alloc _
  have h3 : Blk W0 (w.heap.size + 2) 24 #[.slice none 0 0] := by rw [hW]; exact blk_at (by simp)
  have hcp : ∀ ty W4, W4 = W0.alloc (.cells #[] 69) → ∃ v' w', (Builtin.append_ #[22, 22] ty #[.slice (some ⟨W0.heap.size, 0, none⟩) 0 0, .slice A L.length c]).run Tryz.prog W4 = .ok v' w' ∧ w'.ownsRow W0.heap.size 69 45 v' L.length (KS.flat L) ∧ Ext W0 w' := fun ty W4 h4 => by
    subst h4
    exact copy_row ks_ok W0 (hr.ext HE.out) (by show L.length * 232 ≤ _; omega) (by unfold maxLen; omega) ty
  have hsz : w.heap.size + 3 = W0.heap.size := by rw [hW]; simp
  have hnx : w.heap.size + 1 + 1 + 1 = W0.heap.size := by omega
  have HW := Lib.hid hW
  rw [hW] at x0
  clear hW hr
  go_enter Tryz.func66, Tryz.ntmps66
  have hiz : (i : Int) < (L.length : Int) := by omega
  clear hnx
  go_wp2_with (first | (at_builtin; refine wpList_append_run' _ rfl _ _ _ rfl _ _ rfl rfl _ (hcp _ _ (by rw [HW.out])) ?_; rintro v3 w3 ⟨hown, hE3⟩; obtain ⟨g, cap, cur, es, rfl, hbg, hbk, hfit, hes, hown2⟩ := own_put ks_ok hown hi s; replace hfit : i * 45 + (stC s).size ≤ cur.size := hfit; replace hes : putAt cur (i * 45) (stC s).toList = es := hes; replace hbk : Blk w3 g 69 cur := hbk; have k2 := h2.ext hE3; have k3 := (h3.ext hE3).apart (show w.heap.size + 2 ≠ g by omega) es; replace HE := Lib.hid ((HE.out.trans hE3).row (show w.heap.size ≤ g by omega) es); clear hown hE3 h1 h2 h3 hcp) | (refine wpList_load_blk (by rfl) 69 _ rfl rfl k2 Tryz.underlying69 rfl (by kernel_rfl) ?_) | (refine wpList_store_part rfl 69 _ _ rfl rfl rfl hbk (hfit) (hes) (st_info _) (stC_one _) ?_) | (refine wpList_store_row rfl 24 _ _ rfl _ _ rfl rfl _ _ k3 (by kernel_rfl) (by rfl) (by simp [Value.oneCell']) ?_))
  (try simp only [Exit.inBlock, Exit.then]); refine bodyPost_ret (results_cell_row rfl _ _ _ _ _ _ _ rfl ((k3.row _)) Tryz.underlying24 rfl (by kernel_rfl)) rfl ?_
  have hown3 := own_low hown2 (show w.heap.size + 2 < W0.heap.size by omega) #[.slice (some ⟨g, 0, none⟩) L.length cap]
  obtain ⟨A', c', hv, hrow, hnew⟩ := own_rowv ks_ok (L := L.set i s) (by rw [List.length_set]; exact hown3)
  rw [List.length_set] at hv
  injection hv with e1 e2 e3
  subst e1 e3
  exact ⟨_, _, by rw [List.length_set], hrow, fun a h => Nat.le_trans (by omega) (hnew a h), HE.out.row (by omega) _⟩
theorem sT_eq (L : List St) (i : Nat) : sT L i = L.getD i s0 := by unfold sT; rfl
theorem useT_eq (L : List St) (i w : Nat) : L.set i ⟨(sT L i).ws, toN (sT L i).t w⟩ = useT L i w := by unfold useT; rfl
theorem dropT_eq (L : List St) (i w : Nat) : L.set i ((sT L i).put w e0) = dropT L i w := by unfold dropT; rfl
def MadeTI (L : List St) (k : Int) (w : World) (r : Ending) (w' : World) : Prop := ∃ A c, r = .returned (.tuple #[.agg #[.slice A L.length c], .int .i64 k]) ∧ RowV KS w' A L c ∧ (∀ a, A = some a → w.heap.size ≤ a.block) ∧ Ext w w'
theorem rdrop14_no (A : Option Addr) (n c : Nat) (i v : Int) (hno : ¬ (0 ≤ i ∧ i < n ∧ 0 ≤ v ∧ v ≤ 3)) (w : World) :
    Calls Tryz.prog 35 #[.agg #[.slice A n c], .int .i64 i, .int .i64 v] w fun r w' => r = .returned (.tuple #[.agg #[.slice A n c], .int .i64 1]) ∧ Ext w w' := by
  have h1 : Blk ((w.alloc (.cells #[.slice A n c] 24)).alloc (.cells #[.slice none 0 0] 24)) w.heap.size 24 #[.slice A n c] := (Blk.new w _ _).alloc _
  have h2 : Blk ((w.alloc (.cells #[.slice A n c] 24)).alloc (.cells #[.slice none 0 0] 24)) (w.heap.size + 1) 24 #[.slice none 0 0] := blk_at (by simp)
  have HE := Lib.hid (((Ext.refl w).alloc (.cells #[.slice A n c] 24)).alloc (.cells #[.slice none 0 0] 24))
  cases d1 : decide (i < 0)
  · cases d2 : decide ((n : Int) ≤ i)
    · cases d3 : decide (v < 0)
      · have d4 : decide (3 < v) = true := by simp at d1 d2 d3 ⊢; omega
        clear hno
        go_enter Tryz.func35, Tryz.ntmps35
        go_wp2_with (first | (refine wpList_load_blk (by rfl) 24 _ rfl rfl h1 Tryz.underlying24 rfl (by kernel_rfl) ?_) | (refine wpList_store_row rfl 24 _ _ rfl _ _ rfl rfl _ _ h2 (by kernel_rfl) (by rfl) (by simp [Value.oneCell']) ?_))
        (try simp only [Exit.inBlock, Exit.then]); refine bodyPost_ret (results_c2 rfl _ _ _ _ _ _ rfl ((h2.row _)) rfl Tryz.underlying24 (by kernel_rfl)) rfl ?_
        exact ⟨by first | rfl | simp, HE.out.row (by omega) _⟩
      · clear hno
        go_enter Tryz.func35, Tryz.ntmps35
        go_wp2_with (first | (refine wpList_load_blk (by rfl) 24 _ rfl rfl h1 Tryz.underlying24 rfl (by kernel_rfl) ?_) | (refine wpList_store_row rfl 24 _ _ rfl _ _ rfl rfl _ _ h2 (by kernel_rfl) (by rfl) (by simp [Value.oneCell']) ?_))
        (try simp only [Exit.inBlock, Exit.then]); refine bodyPost_ret (results_c2 rfl _ _ _ _ _ _ rfl ((h2.row _)) rfl Tryz.underlying24 (by kernel_rfl)) rfl ?_
        exact ⟨by first | rfl | simp, HE.out.row (by omega) _⟩
    · clear hno
      go_enter Tryz.func35, Tryz.ntmps35
      go_wp2_with (first | (refine wpList_load_blk (by rfl) 24 _ rfl rfl h1 Tryz.underlying24 rfl (by kernel_rfl) ?_) | (refine wpList_store_row rfl 24 _ _ rfl _ _ rfl rfl _ _ h2 (by kernel_rfl) (by rfl) (by simp [Value.oneCell']) ?_))
      (try simp only [Exit.inBlock, Exit.then]); refine bodyPost_ret (results_c2 rfl _ _ _ _ _ _ rfl ((h2.row _)) rfl Tryz.underlying24 (by kernel_rfl)) rfl ?_
      exact ⟨by first | rfl | simp, HE.out.row (by omega) _⟩
  · clear hno
    go_enter Tryz.func35, Tryz.ntmps35
    go_wp2_with (first | (refine wpList_load_blk (by rfl) 24 _ rfl rfl h1 Tryz.underlying24 rfl (by kernel_rfl) ?_) | (refine wpList_store_row rfl 24 _ _ rfl _ _ rfl rfl _ _ h2 (by kernel_rfl) (by rfl) (by simp [Value.oneCell']) ?_))
    (try simp only [Exit.inBlock, Exit.then]); refine bodyPost_ret (results_c2 rfl _ _ _ _ _ _ rfl ((h2.row _)) rfl Tryz.underlying24 (by kernel_rfl)) rfl ?_
    exact ⟨by first | rfl | simp, HE.out.row (by omega) _⟩
theorem rdrop14_c (A : Option Addr) (L : List St) (c : Nat) (hL : L.length ≤ 1000) (i v : Nat) (hi : i < L.length) (hv : v < 4) (w : World) (hr : RowV KS w A L c) :
    Calls Tryz.prog 35 #[.agg #[.slice A L.length c], .int .i64 (i : Int), .int .i64 (v : Int)] w (MadeTI (dropT L i v) 0 w) := by
  have h1 : Blk ((w.alloc (.cells #[.slice A L.length c] 24)).alloc (.cells #[.slice none 0 0] 24)) w.heap.size 24 #[.slice A L.length c] := (Blk.new w _ _).alloc _
  have h2 : Blk ((w.alloc (.cells #[.slice A L.length c] 24)).alloc (.cells #[.slice none 0 0] 24)) (w.heap.size + 1) 24 #[.slice none 0 0] := blk_at (by simp)
  have HE := Lib.hid (((Ext.refl w).alloc (.cells #[.slice A L.length c] 24)).alloc (.cells #[.slice none 0 0] 24))
  obtain ⟨b, off, rfl, hb, hrx⟩ := hr.some (by omega)
  have hrow : ∀ W : World, Ext w W → RowV KS W (some ⟨b, off, none⟩) L c := fun W h => hr.ext h
  have hel : w.rangeAt b (off + i * 45) (stC (sT L i)).toList := by rw [sT_eq]; exact hrx i hi
  have cus := fun w => rdrop13_c (sT L i) v hv w
  have cwi := fun w h => with14_c (some ⟨b, off, none⟩) L c hL i hi ((sT L i).put v e0) w h
  rw [dropT_eq L i v] at cwi
  have hlen : (dropT L i v).length = L.length := by rw [← dropT_eq, List.length_set]
  generalize (sT L i).put v e0 = su at cus cwi
  generalize sT L i = s at hel cus
  have hiz : (i : Int) < (L.length : Int) := by omega
  have d1 : decide (L.length ≤ i) = false := by simp; omega
  have d4 : decide ((3 : Int) < (v : Int)) = false := by simp; omega
  clear hr hrx
  go_enter Tryz.func35, Tryz.ntmps35
  go_wp2_with fail
  have hps : ((w.alloc (.cells #[.slice (some ⟨b, off, none⟩) L.length c] 24)).alloc (.cells #[.slice none 0 0] 24)).heap.size = w.heap.size + 2 := by simp
  (try replace hb := Blk.drew hb); (try replace h1 := Blk.drew h1); (try replace h2 := Blk.drew h2); replace HE := Lib.hid HE.out.drew
  refine wp_region_seq [(0, false), (1, false), (2, false), (3, false), (4, false), (5, false), (6, false), (7, false), (8, true), (9, true), (10, true), (11, false)] (Gap (w.heap.size + 1) (w.heap.size + 2)) (by kernel_rfl) (by kernel_rfl) (Gap.refl _ _) (fun _ _ _ => Gap.trans) ?_; simp only [List.map, nth_z, nth_s]
  refine seq_load rfl rfl (fun x hx => Gap.blk hx (h1) (by omega)) rfl Tryz.underlying24 (by kernel_rfl) (by rfl) ?_; intro K hK; simp only [Act.put, List.setIfInBounds_toArray, List.set_cons_zero, List.set_cons_succ]; refine hK _ ?_; clear hK K
  (repeat (first | (refine seq_skip (by rfl) ?_; intro K hK; simp only [Act.put, List.setIfInBounds_toArray, List.set_cons_zero, List.set_cons_succ]; refine hK _ ?_; clear hK K) | (refine seq_skipc (by rfl) ?_; intro K hK; simp only [Act.put, List.setIfInBounds_toArray, List.set_cons_zero, List.set_cons_succ]; refine hK _ ?_; clear hK K) | (refine seq_read (by rfl) (by rfl) ?_; intro K hK; go_big_quiet_op; first | go_big_quiet_on | (refine ⟨_, fun _ _ => rfl, ?_⟩; go_big_quiet_on))))
  refine seq_value (.slice (some ⟨b, off, none⟩) L.length c) (by rfl) (fun x hx => by have hq := ((Gap.blk hx (h1) (by omega)).cell 0).trans (rfl); simp [go_sem, execOp, Act.eval, hq]) ?_; intro K hK; simp only [Act.put, List.setIfInBounds_toArray, List.set_cons_zero, List.set_cons_succ]; refine hK _ ?_; clear hK K
  (repeat (first | (refine seq_skip (by rfl) ?_; intro K hK; simp only [Act.put, List.setIfInBounds_toArray, List.set_cons_zero, List.set_cons_succ]; refine hK _ ?_; clear hK K) | (refine seq_skipc (by rfl) ?_; intro K hK; simp only [Act.put, List.setIfInBounds_toArray, List.set_cons_zero, List.set_cons_succ]; refine hK _ ?_; clear hK K) | (refine seq_read (by rfl) (by rfl) ?_; intro K hK; go_big_quiet_op; first | go_big_quiet_on | (refine ⟨_, fun _ _ => rfl, ?_⟩; go_big_quiet_on))))
  refine seq_load_rng rfl rfl ((fun x hx => rgx_gap hx (rgx_ext HE.out hel) (by omega))) rfl Tryz.underlying69 (st_info _) (by rfl) ?_; intro K hK; simp only [Act.put, List.setIfInBounds_toArray, List.set_cons_zero, List.set_cons_succ]; refine hK _ ?_; clear hK K
  (repeat (first | (refine seq_skip (by rfl) ?_; intro K hK; simp only [Act.put, List.setIfInBounds_toArray, List.set_cons_zero, List.set_cons_succ]; refine hK _ ?_; clear hK K) | (refine seq_skipc (by rfl) ?_; intro K hK; simp only [Act.put, List.setIfInBounds_toArray, List.set_cons_zero, List.set_cons_succ]; refine hK _ ?_; clear hK K) | (refine seq_read (by rfl) (by rfl) ?_; intro K hK; go_big_quiet_op; first | go_big_quiet_on | (refine ⟨_, fun _ _ => rfl, ?_⟩; go_big_quiet_on))))
  refine seq_call (cus _) rfl Tryz.func71 (by kernel_rfl) (by kernel_rfl) (by rfl) (by rfl) ?_; intro K hK; rintro e w' ⟨rfl, hE⟩; refine ⟨_, rfl, (Gap.ext hE), ?_⟩; simp only [Act.put, List.setIfInBounds_toArray, List.set_cons_zero, List.set_cons_succ]; refine hK _ _ ?_; clear hK K; (try replace hb := hb.ext hE); (try replace h1 := h1.ext hE); (try replace h2 := h2.ext hE); (try replace HE := Lib.hid (HE.out.trans hE))
  clear hE
  have l2 := h2.lt
  refine seq_call (cwi _ (hrow _ HE.out)) rfl Tryz.func66 (by kernel_rfl) (by kernel_rfl) (by rfl) (by rfl) ?_; intro K hK; rintro e w' ⟨A2, c2, rfl, hr2, hn2, hE⟩; refine ⟨_, rfl, (Gap.ext hE), ?_⟩; simp only [Act.put, List.setIfInBounds_toArray, List.set_cons_zero, List.set_cons_succ]; refine hK _ _ ?_; clear hK K; (try replace hb := hb.ext hE); (try replace h1 := h1.ext hE); (try replace h2 := h2.ext hE); (try replace HE := Lib.hid (HE.out.trans hE))
  clear hE
  refine seq_store_row rfl rfl rfl (h2) (by kernel_rfl) (by rfl) (by simp [Value.oneCell']) (by rfl) (Gap.row _ (by omega) (by omega) _) ?_; intro K hK; simp only [Act.put, List.setIfInBounds_toArray, List.set_cons_zero, List.set_cons_succ]; refine hK _ _ ?_; clear hK K
  (repeat (first | (refine seq_skip (by rfl) ?_; intro K hK; simp only [Act.put, List.setIfInBounds_toArray, List.set_cons_zero, List.set_cons_succ]; refine hK _ ?_; clear hK K) | (refine seq_skipc (by rfl) ?_; intro K hK; simp only [Act.put, List.setIfInBounds_toArray, List.set_cons_zero, List.set_cons_succ]; refine hK _ ?_; clear hK K) | (refine seq_read (by rfl) (by rfl) ?_; intro K hK; go_big_quiet_op; first | go_big_quiet_on | (refine ⟨_, fun _ _ => rfl, ?_⟩; go_big_quiet_on))))
  refine seq_done ?_
  go_wp2
  (try simp only [Exit.inBlock, Exit.then]); refine bodyPost_ret (results_c2 rfl _ _ _ _ _ _ rfl ((h2.row _)) rfl Tryz.underlying24 (by kernel_rfl)) rfl ?_
  exact ⟨A2, c2, by first | rfl | simp, hr2.row (fun a h => by have := hn2 a h; omega) _, fun a h => by have := hn2 a h; omega, HE.out.row (by omega) _⟩
end Go.Proofs.YtlhoedpencmikaaGreatDoor
/- The document's answers for layer 14: Put, Same. -/
namespace Go.Proofs.YtlhoedpencmikaaGreatDoor
open Go.ChangeShapes Go.WideShapes Go.ChangeAt Go.RowKit
set_option linter.unusedVariables false
set_option linter.unusedSimpArgs false
set_option maxRecDepth 10000

/-- several walks with one end: the end is shown once, whatever block and world the walk has come to -/
theorem cut_frk {F : Nat → World → Prop} (A : Nat → World → Prop) {G : Prop} (h : (∀ g W, A g W → F g W) → G) (k : ∀ g W, A g W → F g W) : G := h k
theorem rput14_nil (A : Option Addr) (c : Nat) (e : En) (v : Int) (w : World) :
    Calls Tryz.prog 32 #[.agg #[.slice A 0 c], .agg (enC e), .int .i64 v] w fun r w' => r = .returned (.agg #[.slice A 0 c]) ∧ Ext w w' := by
  have h1 : Blk (((w.alloc (.cells #[.slice A 0 c] 24)).alloc (.cells (enC e) 66)).alloc (.cells #[.slice none 0 0] 24)) w.heap.size 24 #[.slice A 0 c] := ((Blk.new w _ _).alloc _).alloc _
  have h2 : Blk (((w.alloc (.cells #[.slice A 0 c] 24)).alloc (.cells (enC e) 66)).alloc (.cells #[.slice none 0 0] 24)) (w.heap.size + 2) 24 #[.slice none 0 0] := blk_at (by simp)
  have HE := Lib.hid ((((Ext.refl w).alloc (.cells #[.slice A 0 c] 24)).alloc (.cells (enC e) 66)).alloc (.cells #[.slice none 0 0] 24))
  go_enter Tryz.func32, Tryz.ntmps32
  go_wp2_with (first | (refine wpList_load_blk (by rfl) 24 _ rfl rfl h1 Tryz.underlying24 rfl (by kernel_rfl) ?_) | (refine wpList_store_row rfl 24 _ _ rfl _ _ rfl rfl _ _ h2 (by kernel_rfl) (by rfl) (by simp [Value.oneCell']) ?_))
  (try simp only [Exit.inBlock, Exit.then]); refine bodyPost_ret (results_cell_row rfl _ _ _ _ _ _ _ rfl ((h2.row _)) Tryz.underlying24 rfl (by kernel_rfl)) rfl ?_
  exact ⟨by first | rfl | simp, HE.out.row (by omega) _⟩
set_option maxHeartbeats 1000000 in
theorem rput14_c (A : Option Addr) (L : List St) (c : Nat) (hL : L.length ≤ 1000) (hp : 0 < L.length) (e : En) (v : Int) (l0 : 0 ≤ e.l) (l2 : e.l ≤ 2) (e1 : e.vp < 18446744073709551616) (ht : (sT L (ixT L.length e.vp e.l)).t < 8) (w : World) (hr : RowV KS w A L c) :
    Calls Tryz.prog 32 #[.agg #[.slice A L.length c], .agg (enC e), .int .i64 v] w (MadeT (putT e v L) w) := by
  obtain ⟨b, off, rfl, hb, hrx⟩ := hr.some hp
  have h1 : Blk (((w.alloc (.cells #[.slice (some ⟨b, off, none⟩) L.length c] 24)).alloc (.cells (enC e) 66)).alloc (.cells #[.slice none 0 0] 24)) w.heap.size 24 #[.slice (some ⟨b, off, none⟩) L.length c] := ((Blk.new w _ _).alloc _).alloc _
  have h2 : Blk (((w.alloc (.cells #[.slice (some ⟨b, off, none⟩) L.length c] 24)).alloc (.cells (enC e) 66)).alloc (.cells #[.slice none 0 0] 24)) (w.heap.size + 1) 66 (enC e) := (blk_at (by simp)).alloc _
  have h3 : Blk (((w.alloc (.cells #[.slice (some ⟨b, off, none⟩) L.length c] 24)).alloc (.cells (enC e) 66)).alloc (.cells #[.slice none 0 0] 24)) (w.heap.size + 2) 24 #[.slice none 0 0] := blk_at (by simp)
  have HE := Lib.hid ((((Ext.refl w).alloc (.cells #[.slice (some ⟨b, off, none⟩) L.length c] 24)).alloc (.cells (enC e) 66)).alloc (.cells #[.slice none 0 0] 24))
  have hx := ix_lt hp (e.vp : Int) e.l
  have cix := fun w => rindex14_c L.length hp (by omega) (e.vp : Int) e.l (by omega) (by omega) l0 l2 w
  have cpt := fun w => rput13_c (sT L (ixT L.length e.vp e.l)) ht e v w
  have cwi := fun w h => with14_c (some ⟨b, off, none⟩) L c hL (ixT L.length e.vp e.l) hx (putS e v (sT L (ixT L.length e.vp e.l))) w h
  rw [← putT_pos hp] at cwi
  have hlen := putT_len e v L
  have hrow : ∀ W : World, Ext w W → RowV KS W (some ⟨b, off, none⟩) L c := fun W h => hr.ext h
  have hel : w.rangeAt b (off + ixT L.length e.vp e.l * 45) (stC (sT L (ixT L.length e.vp e.l))).toList := by rw [sT_eq]; exact hrx _ hx
  generalize wayS e v (sT L (ixT L.length e.vp e.l)) = j at cpt
  generalize putS e v (sT L (ixT L.length e.vp e.l)) = su at cpt cwi
  generalize sT L (ixT L.length e.vp e.l) = s at hel cpt
  generalize ixT L.length e.vp e.l = i at *
  generalize putT e v L = M at *
  have hiz : (i : Int) < (L.length : Int) := by omega
  have h0 : ((L.length : Int) == 0) = false := by rw [beq_eq_false_iff_ne]; omega
  have x3 := h2.en_l
  have x4 := h2.en_vp
  clear hr hrx ht
  go_enter Tryz.func32, Tryz.ntmps32
  go_wp2_with fail
  refine (cix _).mono ?_
  rintro e1 w' ⟨rfl, rfl⟩
  clear cix x3 x4
  go_wp2_with fail
  generalize hWW : ((w.alloc (.cells #[.slice (some ⟨b, off, none⟩) L.length c] 24)).alloc (.cells (enC e) 66)).alloc (.cells #[.slice none 0 0] 24) = W0 at h1 h2 h3 HE ⊢
  clear hWW
  replace h1 := Blk.drew h1
  replace h2 := Blk.drew h2
  replace h3 := Blk.drew h3
  replace HE := Lib.hid HE.out.drew
  refine wp_region_fork [(0, false), (1, false), (2, false), (3, false), (4, false), (5, false), (6, false)] 7 [(8, false), (9, false), (10, false), (11, true), (12, true), (13, false)] 11 [(7, true), (8, false), (9, false), (10, false), (12, true), (13, false)] (Below W0.drew.heap.size) (by kernel_rfl) (by kernel_rfl) (Below.refl _) (fun _ _ _ => Below.trans) ?_
  simp only [List.map, nth_z, nth_s]
  have hs0 : W0.drew.heap.size ≤ W0.drew.heap.size := Nat.le_refl _
  have q1 := h1.lt
  have q2 := h2.lt
  have q3 := h3.lt
  have hbB : b < W0.drew.heap.size := by omega
  generalize hBB : W0.drew.heap.size = B at q1 q2 q3 hs0 hbB ⊢
  rw [← hBB] at hs0
  generalize W0.drew = wd at *
  rw [hBB] at hs0
  replace hs0 : B ≤ wd.heap.size := by omega
  clear hBB
  apply cut_frk (fun g W => Blk W w.heap.size 24 #[.slice (some ⟨b, off, none⟩) L.length c] ∧ Blk W (w.heap.size + 2) 24 #[.slice none 0 0] ∧ Blk W g 69 (stC su) ∧ w.heap.size + 2 < g ∧ Ext w W)
  case h =>
    intro key
    (repeat (first | (refine seq_skip (by rfl) ?_; intro K hK; simp only [Act.put, List.setIfInBounds_toArray, List.set_cons_zero, List.set_cons_succ]; refine hK _ ?_; clear hK K) | (refine seq_skipc (by rfl) ?_; intro K hK; simp only [Act.put, List.setIfInBounds_toArray, List.set_cons_zero, List.set_cons_succ]; refine hK _ ?_; clear hK K) | (refine seq_read (by rfl) (by rfl) ?_; intro K hK; go_big_quiet_op; first | go_big_quiet_on | (refine ⟨_, fun _ _ => rfl, ?_⟩; go_big_quiet_on))))
    refine seq_value ((.slice (some ⟨b, off, none⟩) L.length c)) (by rfl) (fun x hx => by have hq := (Below.cell hx (p := ⟨w.heap.size, 0, none⟩) (by simp; omega)).trans ((h1.cell 0).trans rfl); simp [go_sem, execOp, Act.eval, hq]) ?_; intro K hK; simp only [Act.put, List.setIfInBounds_toArray, List.set_cons_zero, List.set_cons_succ]; refine hK _ ?_; clear hK K
    (repeat (first | (refine seq_skip (by rfl) ?_; intro K hK; simp only [Act.put, List.setIfInBounds_toArray, List.set_cons_zero, List.set_cons_succ]; refine hK _ ?_; clear hK K) | (refine seq_skipc (by rfl) ?_; intro K hK; simp only [Act.put, List.setIfInBounds_toArray, List.set_cons_zero, List.set_cons_succ]; refine hK _ ?_; clear hK K) | (refine seq_read (by rfl) (by rfl) ?_; intro K hK; go_big_quiet_op; first | go_big_quiet_on | (refine ⟨_, fun _ _ => rfl, ?_⟩; go_big_quiet_on))))
    refine seq_load_rng rfl rfl ((fun x hx => rgx_below hx hbB (rgx_ext HE.out hel))) rfl Tryz.underlying69 (st_info _) (by rfl) ?_; intro K hK; simp only [Act.put, List.setIfInBounds_toArray, List.set_cons_zero, List.set_cons_succ]; refine hK _ ?_; clear hK K
    refine seq_load rfl rfl (fun x hx => Blk.lower (h2) hx (by omega)) rfl Tryz.underlying66 (by kernel_rfl) (by rfl) ?_; intro K hK; simp only [Act.put, List.setIfInBounds_toArray, List.set_cons_zero, List.set_cons_succ]; refine hK _ ?_; clear hK K
    (repeat (first | (refine seq_skip (by rfl) ?_; intro K hK; simp only [Act.put, List.setIfInBounds_toArray, List.set_cons_zero, List.set_cons_succ]; refine hK _ ?_; clear hK K) | (refine seq_skipc (by rfl) ?_; intro K hK; simp only [Act.put, List.setIfInBounds_toArray, List.set_cons_zero, List.set_cons_succ]; refine hK _ ?_; clear hK K) | (refine seq_read (by rfl) (by rfl) ?_; intro K hK; go_big_quiet_op; first | go_big_quiet_on | (refine ⟨_, fun _ _ => rfl, ?_⟩; go_big_quiet_on))))
    refine seq_done ?_
    refine ⟨?_, ?_⟩
    · skip
      refine seq_call (cpt _) rfl Tryz.func65 (by kernel_rfl) (by kernel_rfl) (by rfl) (by rfl) ?_; intro K hK; rintro e w' ⟨rfl, hE⟩; refine ⟨_, rfl, (Below.mono hE hs0), ?_⟩; simp only [Act.put, List.setIfInBounds_toArray, List.set_cons_zero, List.set_cons_succ]; refine hK _ _ ?_; clear hK K
      replace h1 := h1.ext hE
      replace h2 := h2.ext hE
      replace h3 := h3.ext hE
      replace HE := Lib.hid (HE.out.trans hE)
      replace hs0 := Nat.le_trans hs0 hE.size
      try replace hn := hn.ext hE
      clear hE
      (repeat (first | (refine seq_skip (by rfl) ?_; intro K hK; simp only [Act.put, List.setIfInBounds_toArray, List.set_cons_zero, List.set_cons_succ]; refine hK _ ?_; clear hK K) | (refine seq_skipc (by rfl) ?_; intro K hK; simp only [Act.put, List.setIfInBounds_toArray, List.set_cons_zero, List.set_cons_succ]; refine hK _ ?_; clear hK K) | (refine seq_read (by rfl) (by rfl) ?_; intro K hK; go_big_quiet_op; first | go_big_quiet_on | (refine ⟨_, fun _ _ => rfl, ?_⟩; go_big_quiet_on))))
      have hn := Blk.new w' 69 #[.bool false, .int .u64 0, .bool false, .int .i64 0, .int .u64 0, .int .u64 0, .bool false, .bool false, .bool false, .bool false, .bool false, .bool false, .int .u64 0, .bool false, .int .i64 0, .int .u64 0, .int .u64 0, .bool false, .bool false, .bool false, .bool false, .bool false, .bool false, .int .u64 0, .bool false, .int .i64 0, .int .u64 0, .int .u64 0, .bool false, .bool false, .bool false, .bool false, .bool false, .bool false, .int .u64 0, .bool false, .int .i64 0, .int .u64 0, .int .u64 0, .bool false, .bool false, .bool false, .bool false, .bool false, .int .u8 0]
      have hgB : B ≤ w'.heap.size := hs0
      refine seq_run (.pointer (some ⟨w'.heap.size, 0, none⟩)) (w'.alloc (.cells #[.bool false, .int .u64 0, .bool false, .int .i64 0, .int .u64 0, .int .u64 0, .bool false, .bool false, .bool false, .bool false, .bool false, .bool false, .int .u64 0, .bool false, .int .i64 0, .int .u64 0, .int .u64 0, .bool false, .bool false, .bool false, .bool false, .bool false, .bool false, .int .u64 0, .bool false, .int .i64 0, .int .u64 0, .int .u64 0, .bool false, .bool false, .bool false, .bool false, .bool false, .bool false, .int .u64 0, .bool false, .int .i64 0, .int .u64 0, .int .u64 0, .bool false, .bool false, .bool false, .bool false, .bool false, .int .u8 0] 69)) (by rfl) ?_ ((Below.refl _ _).alloc hs0 _) ?_; (simp [go_sem, execOp, Act.eval]); intro K hK; simp only [Act.put, List.setIfInBounds_toArray, List.set_cons_zero, List.set_cons_succ]; refine hK _ _ ?_; clear hK K
      have hE := (Ext.refl w').alloc (.cells #[.bool false, .int .u64 0, .bool false, .int .i64 0, .int .u64 0, .int .u64 0, .bool false, .bool false, .bool false, .bool false, .bool false, .bool false, .int .u64 0, .bool false, .int .i64 0, .int .u64 0, .int .u64 0, .bool false, .bool false, .bool false, .bool false, .bool false, .bool false, .int .u64 0, .bool false, .int .i64 0, .int .u64 0, .int .u64 0, .bool false, .bool false, .bool false, .bool false, .bool false, .bool false, .int .u64 0, .bool false, .int .i64 0, .int .u64 0, .int .u64 0, .bool false, .bool false, .bool false, .bool false, .bool false, .int .u8 0] 69)
      have hgw : w.heap.size ≤ w'.heap.size := HE.out.size
      replace h1 := h1.ext hE
      replace h2 := h2.ext hE
      replace h3 := h3.ext hE
      replace HE := Lib.hid (HE.out.trans hE)
      replace hs0 := Nat.le_trans hs0 hE.size
      clear hE
      generalize w'.alloc (.cells #[.bool false, .int .u64 0, .bool false, .int .i64 0, .int .u64 0, .int .u64 0, .bool false, .bool false, .bool false, .bool false, .bool false, .bool false, .int .u64 0, .bool false, .int .i64 0, .int .u64 0, .int .u64 0, .bool false, .bool false, .bool false, .bool false, .bool false, .bool false, .int .u64 0, .bool false, .int .i64 0, .int .u64 0, .int .u64 0, .bool false, .bool false, .bool false, .bool false, .bool false, .bool false, .int .u64 0, .bool false, .int .i64 0, .int .u64 0, .int .u64 0, .bool false, .bool false, .bool false, .bool false, .bool false, .int .u8 0] 69) = WA at *
      generalize w'.heap.size = gq at *
      (repeat (first | (refine seq_skip (by rfl) ?_; intro K hK; simp only [Act.put, List.setIfInBounds_toArray, List.set_cons_zero, List.set_cons_succ]; refine hK _ ?_; clear hK K) | (refine seq_skipc (by rfl) ?_; intro K hK; simp only [Act.put, List.setIfInBounds_toArray, List.set_cons_zero, List.set_cons_succ]; refine hK _ ?_; clear hK K) | (refine seq_read (by rfl) (by rfl) ?_; intro K hK; go_big_quiet_op; first | go_big_quiet_on | (refine ⟨_, fun _ _ => rfl, ?_⟩; go_big_quiet_on))))
      refine seq_store_row rfl rfl rfl (hn) (st_info _) (by simp [stC_size]) (stC_one _) (by rfl) ((below_row (Below.refl _ _) hgB _)) ?_; intro K hK; simp only [Act.put, List.setIfInBounds_toArray, List.set_cons_zero, List.set_cons_succ]; refine hK _ _ ?_; clear hK K
      (repeat (first | (refine seq_skip (by rfl) ?_; intro K hK; simp only [Act.put, List.setIfInBounds_toArray, List.set_cons_zero, List.set_cons_succ]; refine hK _ ?_; clear hK K) | (refine seq_skipc (by rfl) ?_; intro K hK; simp only [Act.put, List.setIfInBounds_toArray, List.set_cons_zero, List.set_cons_succ]; refine hK _ ?_; clear hK K) | (refine seq_read (by rfl) (by rfl) ?_; intro K hK; go_big_quiet_op; first | go_big_quiet_on | (refine ⟨_, fun _ _ => rfl, ?_⟩; go_big_quiet_on))))
      refine seq_done ?_
      have hm := hn.row (stC su)
      replace h1 := h1.apart (k := gq) (by omega) (stC su)
      replace h2 := h2.apart (k := gq) (by omega) (stC su)
      replace h3 := h3.apart (k := gq) (by omega) (stC su)
      replace HE := Lib.hid (Ext.row HE.out hgw (stC su))
      generalize WA.setRow gq (stC su) = WF at *
      exact key gq WF ⟨h1, h3, hm, (by omega), HE.out⟩
    · skip
      have hn := Blk.new wd 69 #[.bool false, .int .u64 0, .bool false, .int .i64 0, .int .u64 0, .int .u64 0, .bool false, .bool false, .bool false, .bool false, .bool false, .bool false, .int .u64 0, .bool false, .int .i64 0, .int .u64 0, .int .u64 0, .bool false, .bool false, .bool false, .bool false, .bool false, .bool false, .int .u64 0, .bool false, .int .i64 0, .int .u64 0, .int .u64 0, .bool false, .bool false, .bool false, .bool false, .bool false, .bool false, .int .u64 0, .bool false, .int .i64 0, .int .u64 0, .int .u64 0, .bool false, .bool false, .bool false, .bool false, .bool false, .int .u8 0]
      have hgB : B ≤ wd.heap.size := hs0
      refine seq_run (.pointer (some ⟨wd.heap.size, 0, none⟩)) (wd.alloc (.cells #[.bool false, .int .u64 0, .bool false, .int .i64 0, .int .u64 0, .int .u64 0, .bool false, .bool false, .bool false, .bool false, .bool false, .bool false, .int .u64 0, .bool false, .int .i64 0, .int .u64 0, .int .u64 0, .bool false, .bool false, .bool false, .bool false, .bool false, .bool false, .int .u64 0, .bool false, .int .i64 0, .int .u64 0, .int .u64 0, .bool false, .bool false, .bool false, .bool false, .bool false, .bool false, .int .u64 0, .bool false, .int .i64 0, .int .u64 0, .int .u64 0, .bool false, .bool false, .bool false, .bool false, .bool false, .int .u8 0] 69)) (by rfl) ?_ ((Below.refl _ _).alloc hs0 _) ?_; (simp [go_sem, execOp, Act.eval]); intro K hK; simp only [Act.put, List.setIfInBounds_toArray, List.set_cons_zero, List.set_cons_succ]; refine hK _ _ ?_; clear hK K
      have hE := (Ext.refl wd).alloc (.cells #[.bool false, .int .u64 0, .bool false, .int .i64 0, .int .u64 0, .int .u64 0, .bool false, .bool false, .bool false, .bool false, .bool false, .bool false, .int .u64 0, .bool false, .int .i64 0, .int .u64 0, .int .u64 0, .bool false, .bool false, .bool false, .bool false, .bool false, .bool false, .int .u64 0, .bool false, .int .i64 0, .int .u64 0, .int .u64 0, .bool false, .bool false, .bool false, .bool false, .bool false, .bool false, .int .u64 0, .bool false, .int .i64 0, .int .u64 0, .int .u64 0, .bool false, .bool false, .bool false, .bool false, .bool false, .int .u8 0] 69)
      have hgw : w.heap.size ≤ wd.heap.size := HE.out.size
      replace h1 := h1.ext hE
      replace h2 := h2.ext hE
      replace h3 := h3.ext hE
      replace HE := Lib.hid (HE.out.trans hE)
      replace hs0 := Nat.le_trans hs0 hE.size
      clear hE
      generalize wd.alloc (.cells #[.bool false, .int .u64 0, .bool false, .int .i64 0, .int .u64 0, .int .u64 0, .bool false, .bool false, .bool false, .bool false, .bool false, .bool false, .int .u64 0, .bool false, .int .i64 0, .int .u64 0, .int .u64 0, .bool false, .bool false, .bool false, .bool false, .bool false, .bool false, .int .u64 0, .bool false, .int .i64 0, .int .u64 0, .int .u64 0, .bool false, .bool false, .bool false, .bool false, .bool false, .bool false, .int .u64 0, .bool false, .int .i64 0, .int .u64 0, .int .u64 0, .bool false, .bool false, .bool false, .bool false, .bool false, .int .u8 0] 69) = WA at *
      generalize wd.heap.size = gq at *
      refine seq_call (cpt _) rfl Tryz.func65 (by kernel_rfl) (by kernel_rfl) (by rfl) (by rfl) ?_; intro K hK; rintro e w' ⟨rfl, hE⟩; refine ⟨_, rfl, (Below.mono hE hs0), ?_⟩; simp only [Act.put, List.setIfInBounds_toArray, List.set_cons_zero, List.set_cons_succ]; refine hK _ _ ?_; clear hK K
      replace h1 := h1.ext hE
      replace h2 := h2.ext hE
      replace h3 := h3.ext hE
      replace HE := Lib.hid (HE.out.trans hE)
      replace hs0 := Nat.le_trans hs0 hE.size
      try replace hn := hn.ext hE
      clear hE
      (repeat (first | (refine seq_skip (by rfl) ?_; intro K hK; simp only [Act.put, List.setIfInBounds_toArray, List.set_cons_zero, List.set_cons_succ]; refine hK _ ?_; clear hK K) | (refine seq_skipc (by rfl) ?_; intro K hK; simp only [Act.put, List.setIfInBounds_toArray, List.set_cons_zero, List.set_cons_succ]; refine hK _ ?_; clear hK K) | (refine seq_read (by rfl) (by rfl) ?_; intro K hK; go_big_quiet_op; first | go_big_quiet_on | (refine ⟨_, fun _ _ => rfl, ?_⟩; go_big_quiet_on))))
      refine seq_store_row rfl rfl rfl (hn) (st_info _) (by simp [stC_size]) (stC_one _) (by rfl) ((below_row (Below.refl _ _) hgB _)) ?_; intro K hK; simp only [Act.put, List.setIfInBounds_toArray, List.set_cons_zero, List.set_cons_succ]; refine hK _ _ ?_; clear hK K
      (repeat (first | (refine seq_skip (by rfl) ?_; intro K hK; simp only [Act.put, List.setIfInBounds_toArray, List.set_cons_zero, List.set_cons_succ]; refine hK _ ?_; clear hK K) | (refine seq_skipc (by rfl) ?_; intro K hK; simp only [Act.put, List.setIfInBounds_toArray, List.set_cons_zero, List.set_cons_succ]; refine hK _ ?_; clear hK K) | (refine seq_read (by rfl) (by rfl) ?_; intro K hK; go_big_quiet_op; first | go_big_quiet_on | (refine ⟨_, fun _ _ => rfl, ?_⟩; go_big_quiet_on))))
      refine seq_done ?_
      have hm := hn.row (stC su)
      replace h1 := h1.apart (k := gq) (by omega) (stC su)
      replace h2 := h2.apart (k := gq) (by omega) (stC su)
      replace h3 := h3.apart (k := gq) (by omega) (stC su)
      replace HE := Lib.hid (Ext.row HE.out hgw (stC su))
      generalize w'.setRow gq (stC su) = WF at *
      exact key gq WF ⟨h1, h3, hm, (by omega), HE.out⟩
  intro g4 WN hkk
  clear h1 h2 h3 HE q1 q2 q3 hbB hs0 cpt hel
  obtain ⟨h1, h3, h4, d34, hE⟩ := hkk
  have HE := Lib.hid hE
  clear hE
  go_wp2_with (first | (refine wpList_load_blk (by rfl) 24 _ rfl rfl h1 Tryz.underlying24 rfl (by kernel_rfl) ?_) | (refine wpList_load_blk (by rfl) 69 _ rfl rfl h4 Tryz.underlying69 rfl (by kernel_rfl) ?_))
  refine (cwi _ (hrow _ HE.out)).mono ?_
  rintro e2 w2 ⟨A2, c2, rfl, hr2, hn2, hE⟩
  have q3 := h3.lt
  replace h3 := h3.ext hE
  replace HE := Lib.hid (HE.out.trans hE)
  clear hE h1 h4
  go_wp2_with (refine wpList_store_row rfl 24 _ _ rfl _ _ rfl rfl _ _ h3 (by kernel_rfl) (by rfl) (by simp [Value.oneCell']) ?_)
  (try simp only [Exit.inBlock, Exit.then]); refine bodyPost_ret (results_cell_row rfl _ _ _ _ _ _ _ rfl ((h3.row _)) Tryz.underlying24 rfl (by kernel_rfl)) rfl ?_
  exact ⟨A2, c2, by first | rfl | simp [hlen], hr2.row (fun a h => by have := hn2 a h; omega) _, fun a h => by have := hn2 a h; omega, HE.out.row (by omega) _⟩
theorem list_st {L M : List St} (hl : L.length = M.length) (h : ∀ j, j < L.length → sT L j = sT M j) : L = M := by
  apply List.ext_getElem hl
  intro i h1 h2
  have := h i h1
  rw [sT_eq, sT_eq] at this
  simpa [List.getD, h1, h2] using this
set_option maxRecDepth 100000 in
set_option maxHeartbeats 1000000 in
theorem rsame14_c (A B : Option Addr) (L M : List St) (c d : Nat) (hL : L.length ≤ 1000) (hM : M.length ≤ 1000) (w : World) (hr : RowV KS w A L c) (hq : RowV KS w B M d) :
    Calls Tryz.prog 36 #[.agg #[.slice A L.length c], .agg #[.slice B M.length d]] w fun r w' => r = .returned (.bool (decide (L = M))) ∧ Ext w w' := by
  obtain ⟨h1, h2⟩ := blk_two (Ext.refl ((w.alloc (.cells #[.slice A L.length c] 24)).alloc (.cells #[.slice B M.length d] 24)))
  have HE := Lib.hid (((Ext.refl w).alloc (.cells #[.slice A L.length c] 24)).alloc (.cells #[.slice B M.length d] 24))
  by_cases hl : L.length = M.length
  · have hne : ((L.length : Int) != (M.length : Int)) = false := by rw [hl]; simp
    have hrow : ∀ W : World, Ext w W → RowV KS W A L c := fun W h => hr.ext h
    have hrq : ∀ W : World, Ext w W → RowV KS W B M d := fun W h => hq.ext h
    have HD : (∀ j, j < L.length → sT L j = sT M j) → decide (L = M) = true := fun h => decide_eq_true (list_st hl h)
    have HN : ∀ j, decide (sT L j = sT M j) = false → decide (L = M) = false := fun j h => decide_eq_false fun e => by rw [e] at h; simp at h
    generalize decide (L = M) = D at HD HN ⊢
    have HL := Lib.hid hl
    clear hr hq hl
    go_enter Tryz.func36, Tryz.ntmps36
    go_wp2
    go_loopw [5] (fun i wr => ∃ k : Nat, k ≤ L.length ∧ i = .int .i64 k ∧ Hid (∀ j, j < k → sT L j = sT M j) ∧ Blk wr w.heap.size 24 #[.slice A L.length c] ∧ Blk wr (w.heap.size + 1) 24 #[.slice B M.length d] ∧ Ext w wr) (fun i _ => (L.length - intOf i).toNat)
    case atStart => exact ⟨0, by omega, rfl, Lib.hid (fun j hj => absurd hj (by omega)), h1, h2, HE.out⟩
    case round =>
      clear h1 h2 HE
      obtain ⟨k, hk, rfl, I, h1, h2, hE⟩ := hrel
      have HE := Lib.hid hE
      clear hE
      by_cases hlt : k < L.length
      · have hkz : (k : Int) < (L.length : Int) := by omega
        have hkm : (k : Int) < (M.length : Int) := by have := HL.out; omega
        have hd := HN k
        have IK : decide (sT L k = sT M k) = true → Hid (∀ j, j < k + 1 → sT L j = sT M j) := fun h => Lib.hid fun j hj => by
          rcases Nat.lt_or_ge j k with h1 | h1
          · exact I.out j h1
          · obtain rfl : j = k := by omega
            exact of_decide_eq_true h
        obtain ⟨b, off, rfl, hb, hrx⟩ := (hrow _ HE.out).some (by omega)
        obtain ⟨b2, off2, rfl, hb2, hrx2⟩ := (hrq _ HE.out).some (by have := HL.out; omega)
        have e1 : wr.rangeAt b (off + k * 45) (stC (sT L k)).toList := by rw [sT_eq]; exact hrx k hlt
        have e2 : wr.rangeAt b2 (off2 + k * 45) (stC (sT M k)).toList := by rw [sT_eq]; exact hrx2 k (by have := HL.out; omega)
        have hnq : ∀ w, (binOp .neq 69 (.agg (stC (sT L k))) (.agg (stC (sT M k)))).run Tryz.prog w = .ok (.bool (!decide (sT L k = sT M k))) w := fun w => neq_st w _ _
        clear HD HN I hrx hrx2 hrow hrq
        generalize decide (sT L k = sT M k) = B at *
        generalize sT L k = s at *
        generalize sT M k = t at *
        have x1 : wr.cell? ⟨w.heap.size, 0, none⟩ = some (.slice (some ⟨b, off, none⟩) L.length c) := (h1.cell 0).trans rfl
        go_wp2_with fail
        clear x1
        replace h1 := Blk.drew h1
        replace h2 := Blk.drew h2
        replace HE := Lib.hid HE.out.drew
        refine wp_region_seq [(0, false), (1, false), (2, false), (3, false), (4, false), (5, false), (6, false), (7, false), (8, false), (9, false), (10, false)] Ext (by kernel_rfl) (by kernel_rfl) Ext.refl (fun _ _ _ => Ext.trans) ?_; simp only [List.map, nth_z, nth_s]
        skip
        (repeat ((refine seq_read (by rfl) (by rfl) ?_; intro K hK; go_big_quiet_op; (refine ⟨_, fun _ _ => rfl, ?_⟩; go_big_quiet_on))))
        refine seq_value ((.slice (some ⟨b, off, none⟩) L.length c)) (by rfl) (fun x hx => by have hq := ext_cell hx ((h1.cell 0).trans rfl); simp [go_sem, execOp, Act.eval, hq]) ?_; intro K hK; simp only [Act.put, List.setIfInBounds_toArray, List.set_cons_zero, List.set_cons_succ]; refine hK _ ?_; clear hK K
        (repeat ((refine seq_read (by rfl) (by rfl) ?_; intro K hK; go_big_quiet_op; first | go_big_quiet_on | (refine ⟨_, fun _ _ => rfl, ?_⟩; go_big_quiet_on))))
        refine seq_load_rng rfl rfl ((fun x hx => rgx_ext hx e1)) rfl Tryz.underlying69 (st_info _) (by rfl) ?_; intro K hK; simp only [Act.put, List.setIfInBounds_toArray, List.set_cons_zero, List.set_cons_succ]; refine hK _ ?_; clear hK K
        (repeat ((refine seq_read (by rfl) (by rfl) ?_; intro K hK; go_big_quiet_op; (refine ⟨_, fun _ _ => rfl, ?_⟩; go_big_quiet_on))))
        refine seq_value ((.slice (some ⟨b2, off2, none⟩) M.length d)) (by rfl) (fun x hx => by have hq := ext_cell hx ((h2.cell 0).trans rfl); simp [go_sem, execOp, Act.eval, hq]) ?_; intro K hK; simp only [Act.put, List.setIfInBounds_toArray, List.set_cons_zero, List.set_cons_succ]; refine hK _ ?_; clear hK K
        (repeat ((refine seq_read (by rfl) (by rfl) ?_; intro K hK; go_big_quiet_op; first | go_big_quiet_on | (refine ⟨_, fun _ _ => rfl, ?_⟩; go_big_quiet_on))))
        refine seq_load_rng rfl rfl ((fun x hx => rgx_ext hx e2)) rfl Tryz.underlying69 (st_info _) (by rfl) ?_; intro K hK; simp only [Act.put, List.setIfInBounds_toArray, List.set_cons_zero, List.set_cons_succ]; refine hK _ ?_; clear hK K
        refine seq_cmp rfl rfl rfl (st_guard) (hnq) (by rfl) ?_; intro K hK; simp only [Act.put, List.setIfInBounds_toArray, List.set_cons_zero, List.set_cons_succ]; refine hK _ ?_; clear hK K
        refine seq_done ?_
        clear hnq e1 e2
        cases B
        · have HZ := Lib.hid (hd rfl)
          clear IK hd
          go_wp2
          go_ret
          exact ⟨by rw [HZ.out]; rfl, HE.out⟩
        · have I2 := IK rfl
          clear IK hd
          go_wp2
          go_roundw
          case rel => exact ⟨k + 1, by omega, by go_num, I2, h1, h2, HE.out⟩
          case measure => simp [intOf]; omega
      · obtain rfl : k = L.length := by omega
        have HZ := Lib.hid (HD I.out)
        have x1 : wr.cell? ⟨w.heap.size, 0, none⟩ = some (.slice A L.length c) := (h1.cell 0).trans rfl
        clear HD HN I
        go_wp2
        go_ret
        exact ⟨by rw [HZ.out]; rfl, HE.out⟩
  · have hne : ((L.length : Int) != (M.length : Int)) = true := by simp; omega
    have hno : decide (L = M) = false := decide_eq_false fun e => hl (by rw [e])
    rw [hno]
    clear hr hq hno
    go_enter Tryz.func36, Tryz.ntmps36
    go_wp2
    go_ret
    exact ⟨rfl, HE.out⟩
end Go.Proofs.YtlhoedpencmikaaGreatDoor
/- The document's answers for layer 14: Right, Find. -/
namespace Go.Proofs.YtlhoedpencmikaaGreatDoor
open Go.ChangeShapes Go.WideShapes Go.ChangeAt Go.RowKit
set_option linter.unusedVariables false
set_option linter.unusedSimpArgs false
set_option maxRecDepth 10000

/-- a way of a set in a row -/
theorem rng_way {w : World} {b o : Nat} {s : St} (h : w.rangeAt b o (stC s).toList) {q : Nat} (hq : q < 4) : w.rangeAt b (o + q * 11) (enC (s.ws.at q)).toList := by
  intro j v hj
  rw [Array.getElem?_toList] at hj
  have hjl : j < 11 := by
    have := (Array.getElem?_eq_some_iff.1 hj).1
    rwa [enC_size] at this
  have hc := cell_part (stC_at s hq) (i := j) (by rw [enC_size]; exact hjl)
  have h1 := h (q * 11 + j) v (by rw [Array.getElem?_toList, hc]; exact hj)
  rw [Nat.add_assoc]
  exact h1
/-- a cell of a struct in a row -/
theorem rng_cell {w : World} {b o : Nat} {cs : Array Value} (h : w.rangeAt b o cs.toList) (j : Nat) {v : Value} (hv : cs[j]? = some v) : w.cell? ⟨b, o + j, none⟩ = some v := h j v (by rw [Array.getElem?_toList]; exact hv)
theorem ra_no {n i : Nat} {s : St} {q : Nat} (hq : q < 4) (h : inT n i (s.ws.at q) = false) : rightAt n i s = false := by
  cases hr : rightAt n i s
  · rfl
  · rw [in_at hr hq] at h; cases h
theorem ra_no_s {n i : Nat} {s : St} (h : rightS s = false) : rightAt n i s = false := by
  cases hr : rightAt n i s
  · rfl
  · rw [rightAt_s hr] at h; cases h
theorem in_eq (n i : Nat) (e : En) : inT n i e = (!e.v || decide (ixT n e.vp e.l = i)) := by unfold inT; rfl
theorem results_c4 {fn : Func} {p u x y : Tmp} {ty : TypeId} {P : Program} (h : fn.results = #[.cell p ty, .tmp u, .tmp x, .tmp y]) (tmps : Array Value) (w : World) (g : Nat) (t : TypeId) (cs : Array Value) (d : TypeDesc)
    (hp : tmps.getD p undef = .pointer (some ⟨g, 0, none⟩)) (hg : Blk w g t cs)
    (hd : (match d with | .struct _ | .array _ _ => true | _ => false) = true) (hu : P.underlying ty = some d) (hi : (P.info? ty).map (·.size) = some cs.size) :
    (results fn tmps).run P w = .ok (.tuple #[.agg cs, tmps.getD u undef, tmps.getD x undef, tmps.getD y undef]) w := by
  have hp' : tmps[p]?.getD undef = .pointer (some ⟨g, 0, none⟩) := by simpa using hp
  simp only [results, h]
  simp [Result.andThen, hp', asAddr, run_loadVar_row w g t ty cs (0, 0) d hg hu (by cases d <;> first | rfl | exact hd) hi]
theorem find_at {n a : Int} {L : List St} {k : Nat} (hp : 0 < L.length) (hk : k < 3) (h : ∀ j, j < k → lvT n a L j = false) (hy : lvT n a L k = true) :
    okT n a L = true ∧ seT n a L = ixT L.length (numI a) k ∧ wyT n a L = fiW (hitE n a k) (sT L (ixT L.length (numI a) k)).ws ∧ enT n a L = (sT L (ixT L.length (numI a) k)).ws.at (fiW (hitE n a k) (sT L (ixT L.length (numI a) k)).ws) := by
  have hf : flT n a L = k := by
    unfold flT
    rcases (by omega : k = 0 ∨ k = 1 ∨ k = 2) with rfl | rfl | rfl
    · rw [if_pos hy]
    · rw [if_neg (by rw [h 0 (by decide)]; decide), if_pos hy]
    · rw [if_neg (by rw [h 0 (by decide)]; decide), if_neg (by rw [h 1 (by decide)]; decide)]
  have hok : okT n a L = true := by
    unfold okT
    simp only [Bool.and_eq_true, decide_eq_true_iff, Bool.or_eq_true]
    refine ⟨hp, ?_⟩
    rcases (by omega : k = 0 ∨ k = 1 ∨ k = 2) with rfl | rfl | rfl
    · exact .inl hy
    · exact .inr (.inl hy)
    · exact .inr (.inr hy)
  have hs : seT n a L = ixT L.length (numI a) k := by unfold seT; rw [if_pos hok, hf]
  have hw : wyT n a L = fiW (hitE n a k) (sT L (ixT L.length (numI a) k)).ws := by unfold wyT; rw [if_pos hok, hf, hs]
  refine ⟨hok, hs, hw, ?_⟩
  unfold enT
  rw [if_pos hok, hs, hw]
theorem find_no {n a : Int} {L : List St} (h : L.length = 0 ∨ ∀ j, j < 3 → lvT n a L j = false) : okT n a L = false ∧ seT n a L = 0 ∧ wyT n a L = 0 ∧ enT n a L = e0 := by
  have hok : okT n a L = false := by
    unfold okT
    rcases h with h | h
    · rw [h]; simp
    · rw [h 0 (by decide), h 1 (by decide), h 2 (by decide)]; simp
  have hn : ¬ (okT n a L = true) := by rw [hok]; decide
  refine ⟨hok, ?_, ?_, ?_⟩
  · unfold seT; rw [if_neg hn]
  · unfold wyT; rw [if_neg hn]
  · unfold enT; rw [if_neg hn]
theorem lv_eq (n a : Int) (L : List St) (l : Nat) : fbW (hitE n a (l : Int)) (sT L (ixT L.length (numI a) (l : Int))).ws = lvT n a L l := by unfold lvT; rfl
attribute [local irreducible] World.setRow World.alloc Blk
def FoundT (n a : Int) (L : List St) : Ending := .returned (.tuple #[.agg (enC (enT n a L)), .int .i64 ((seT n a L : Nat) : Int), .int .i64 ((wyT n a L : Nat) : Int), .bool (okT n a L)])
theorem foundT_eq {n a : Int} {L : List St} {e : En} {i w : Nat} {b : Bool} (h1 : enT n a L = e) (h2 : seT n a L = i) (h3 : wyT n a L = w) (h4 : okT n a L = b) : FoundT n a L = .returned (.tuple #[.agg (enC e), .int .i64 (i : Int), .int .i64 (w : Int), .bool b]) := by
  unfold FoundT
  rw [h1, h2, h3, h4]
set_option maxRecDepth 100000 in
set_option maxHeartbeats 2000000 in
theorem rright14_c (A : Option Addr) (L : List St) (c : Nat) (hL : L.length ≤ 9223372036854775807) (w : World) (hr : RowV KS w A L c) :
    Calls Tryz.prog 46 #[.agg #[.slice A L.length c]] w fun r w' => r = .returned (.bool (rightT L)) ∧ Ext w w' := by
  have h1 := Blk.new w 24 #[.slice A L.length c]
  have HE := Lib.hid ((Ext.refl w).alloc (.cells #[.slice A L.length c] 24))
  have hrow : ∀ W : World, Ext w W → RowV KS W A L c := fun W h => hr.ext h
  have HN : ∀ i, i < L.length → rightAt L.length i (sT L i) = false → rightT L = false := fun i hi h => rt_no hi h
  have HY : L.length ≤ 16 → (∀ j, j < L.length → rightAt L.length j (sT L j) = true) → rightT L = true := fun h k => rt_of h k
  have HX : 16 < L.length → rightT L = false := fun h => rt_long h
  generalize rightT L = T at HN HY HX ⊢
  clear hr
  go_enter Tryz.func46, Tryz.ntmps46
  go_wp2
  go_loopw [3] (fun i wr => ∃ k : Nat, k ≤ L.length ∧ k ≤ 17 ∧ i = .int .i64 k ∧ Hid (∀ j, j < k → rightAt L.length j (sT L j) = true) ∧ Blk wr w.heap.size 24 #[.slice A L.length c] ∧ Ext w wr) (fun i _ => (17 - intOf i).toNat)
  case atStart => exact ⟨0, by omega, by omega, rfl, Lib.hid (fun j hj => absurd hj (by omega)), h1, HE.out⟩
  case round =>
    clear h1 HE
    obtain ⟨k, hk, hk17, rfl, I, h1, hE⟩ := hrel
    have HE := Lib.hid hE
    clear hE
    have x1 : wr.cell? ⟨w.heap.size, 0, none⟩ = some (.slice A L.length c) := (h1.cell 0).trans rfl
    by_cases hlt : k < L.length ∧ k < 17
    · obtain ⟨hlt, hk7⟩ := hlt
      have hkz : (k : Int) < (L.length : Int) := by omega
      have hk7z : decide ((k : Int) < 17) = true := by simp; omega
      clear hk hk17
      have hd := HN k hlt
      obtain ⟨b, off, rfl, hb, hrx⟩ := (hrow _ HE.out).some (by omega)
      have e1 : wr.rangeAt b (off + k * 45) (stC (sT L k)).toList := by rw [sT_eq]; exact hrx k hlt
      have crs := fun w => rright13_c (sT L k) w
      have hno := fun h => hd (ra_no_s (n := L.length) (i := k) h)
      cases hrs : rightS (sT L k)
      · rw [hrs] at crs
        have HZ := Lib.hid (hno hrs)
        clear hrs hno hd HN HY HX I hrx hrow
        go_wp2_with (refine wpList_load_rng (w := wr) (by rfl) 69 _ rfl rfl e1 Tryz.underlying69 rfl (st_info _) ?_)
        refine (crs _).mono ?_
        rintro e w' ⟨rfl, hE⟩
        replace HE := Lib.hid (HE.out.trans hE)
        clear hE crs
        go_wp2
        go_ret
        exact ⟨by rw [HZ.out]; rfl, HE.out⟩
      · rw [hrs] at crs
        have HRS := Lib.hid hrs
        clear hno hrs
        go_wp2_with (refine wpList_load_rng (w := wr) (by rfl) 69 _ rfl rfl e1 Tryz.underlying69 rfl (st_info _) ?_)
        refine (crs _).mono ?_
        rintro e w' ⟨rfl, hE⟩
        replace e1 := rgx_ext hE e1
        replace h1 := h1.ext hE
        replace HE := Lib.hid (HE.out.trans hE)
        clear hE crs x1
        go_wp2
        go_loopw [4] (fun i wr => ∃ q : Nat, q ≤ 4 ∧ i = .int .i64 q ∧ Hid (∀ u, u < q → inT L.length k ((sT L k).ws.at u) = true) ∧ wr.rangeAt b (off + k * 45) (stC (sT L k)).toList ∧ Blk wr w.heap.size 24 #[.slice (some ⟨b, off, none⟩) L.length c] ∧ Ext w wr) (fun i _ => (4 - intOf i).toNat)
        case atStart => exact ⟨0, by omega, rfl, Lib.hid (fun u hu => absurd hu (by omega)), e1, h1, HE.out⟩
        case round =>
          clear e1 h1 HE
          obtain ⟨q, hq, rfl, J, e1, h1, hE⟩ := hrel
          have HE := Lib.hid hE
          clear hE
          have x1 : wr.cell? ⟨w.heap.size, 0, none⟩ = some (.slice (some ⟨b, off, none⟩) L.length c) := (h1.cell 0).trans rfl
          by_cases hql : q < 4
          · have hqz : (q : Int) < 4 := by omega
            clear hq
            have hme := right_may HRS.out hql
            have hdq := fun h => hd (ra_no hql h)
            have e2 := rng_way e1 hql
            have JK : inT L.length k ((sT L k).ws.at q) = true → Hid (∀ u, u < q + 1 → inT L.length k ((sT L k).ws.at u) = true) := fun h => Lib.hid fun u hu => by
              rcases Nat.lt_or_ge u q with h1 | h1
              · exact J.out u h1
              · obtain rfl : u = q := by omega
                exact h
            rw [in_eq] at hdq JK
            generalize (sT L k).ws.at q = e at *
            have h2 := Blk.new wr 66 (enC e)
            have hE := (Ext.refl wr).alloc (.cells (enC e) 66)
            have h1b := h1.ext hE
            have e1b := rgx_ext hE e1
            have HE2 := Lib.hid (HE.out.trans hE)
            have y1 : (wr.alloc (.cells (enC e) 66)).cell? ⟨w.heap.size, 0, none⟩ = some (.slice (some ⟨b, off, none⟩) L.length c) := (h1b.cell 0).trans rfl
            clear hE
            cases hv : e.v
            · have J2 := JK (by rw [hv]; rfl)
              have y0 := h2.en_v
              rw [hv] at y0
              clear JK hdq hd HN HY HX I hme hv hrow
              go_upto_region 10 with (first | (refine wpList_load_rng (w := wr) (by rfl) 66 _ rfl rfl e2 Tryz.underlying66 rfl (en_info _) ?_) | (refine wpList_store_new rfl 66 _ _ rfl (enC _) _ _ rfl rfl (en_info _) (by simp [enC_size]) (enC_one _) ?_))
              clear e2
              go_wp2
              go_roundw
              case rel => exact ⟨q + 1, by omega, by go_num, J2, e1b, h1b, HE2.out⟩
              case measure => simp [intOf]; omega
            · have kk := may_v hme hv
              have k0 := kk.l0
              have k2 := kk.l2
              have kv := kk.vp
              have cix := fun w => rindex14_c L.length (by omega) hL (e.vp : Int) e.l (by omega) (by omega) k0 k2 w
              have y0 := h2.en_v
              rw [hv] at y0
              have y3 := h2.en_l
              have y4 := h2.en_vp
              rw [hv] at hdq JK
              simp only [Bool.not_true, Bool.false_or] at hdq JK
              clear hme hv kk
              generalize ixT L.length e.vp e.l = x at *
              go_upto_region 10 with (first | (refine wpList_load_rng (w := wr) (by rfl) 66 _ rfl rfl e2 Tryz.underlying66 rfl (en_info _) ?_) | (refine wpList_store_new rfl 66 _ _ rfl (enC _) _ _ rfl rfl (en_info _) (by simp [enC_size]) (enC_one _) ?_))
              clear e2
              go_wp2_with fail
              refine (cix _).mono ?_
              rintro e9 w9 ⟨rfl, rfl⟩
              clear cix y3 y4
              by_cases hxk : x = k
              · have J2 := JK (decide_eq_true hxk)
                have hxz : ((x : Int) != (k : Int)) = false := by rw [hxk]; simp
                clear JK hdq hd HN HY HX I hxk hrow
                go_wp2
                go_roundw
                case rel => exact ⟨q + 1, by omega, by go_num, J2, e1b, h1b, HE2.out⟩
                case measure => simp [intOf]; omega
              · have HZ := Lib.hid (hdq (decide_eq_false hxk))
                have hxz : ((x : Int) != (k : Int)) = true := by simp; omega
                clear JK hdq hd HN HY HX I hxk hrow
                go_wp2
                go_ret
                exact ⟨by rw [HZ.out]; rfl, HE2.out⟩
          · obtain rfl : q = 4 := by omega
            have I2 : Hid (∀ j, j < k + 1 → rightAt L.length j (sT L j) = true) := Lib.hid fun j hj => by
              rcases Nat.lt_or_ge j k with h1 | h1
              · exact I.out j h1
              · obtain rfl : j = k := by omega
                exact rightAt_of HRS.out fun u hu => J.out u hu
            clear hd HN HY HX I J hq hrow
            go_wp2
            go_roundw
            case rel => exact ⟨k + 1, by omega, by omega, by go_num, I2, h1, HE.out⟩
            case measure => simp [intOf]; omega
    · by_cases h16 : L.length ≤ 16
      · obtain rfl : k = L.length := by omega
        have HZ := Lib.hid (HY h16 I.out)
        have hd : decide ((L.length : Int) ≤ 16) = true := by simp; omega
        clear HN HY HX I hrow hlt hk hk17 h16
        go_wp2
        go_ret
        exact ⟨by rw [HZ.out]; rfl, HE.out⟩
      · have hk7 : k = 17 := by omega
        subst hk7
        have HZ := Lib.hid (HX (by omega))
        have hd : decide ((L.length : Int) ≤ 16) = false := by simp; omega
        clear HN HY HX I hrow hlt hk17
        by_cases h17 : L.length = 17
        · have hd2 : decide ((17 : Int) < (L.length : Int)) = false := by simp; omega
          go_wp2
          go_ret
          exact ⟨by rw [HZ.out]; rfl, HE.out⟩
        · have hd2 : decide ((17 : Int) < (L.length : Int)) = true := by simp; omega
          go_wp2
          go_ret
          exact ⟨by rw [HZ.out]; rfl, HE.out⟩
end Go.Proofs.YtlhoedpencmikaaGreatDoor
/- The document's answers for layer 14: All. -/
namespace Go.Proofs.YtlhoedpencmikaaGreatDoor
open Go.ChangeShapes Go.WideShapes Go.ChangeAt Go.RowKit
set_option linter.unusedVariables false
set_option linter.unusedSimpArgs false
set_option maxRecDepth 10000

/-- the entries of the sets ahead of k, and of k's ways ahead of q -/
def lsK (s : Ws) (q : Nat) : List En := ([s.a, s.b, s.c, s.d].take q).filter (·.v)
def allQ (L : List St) (k q : Nat) : List En := ((L.take k).flatMap fun s => lsW s.ws) ++ lsK (sT L k).ws q
theorem allQ_0 (L : List St) : allQ L 0 0 = [] := rfl
theorem allQ_end (L : List St) : allQ L L.length 0 = allT L := by unfold allQ allT lsK; simp
theorem allQ_4 {L : List St} {k : Nat} (hk : k < L.length) : allQ L k 4 = allQ L (k + 1) 0 := by
  unfold allQ
  have h1 : lsK (sT L k).ws 4 = lsW (sT L k).ws := by unfold lsK lsW; rfl
  have h2 : lsK (sT L (k + 1)).ws 0 = [] := by unfold lsK; rfl
  have h3 : L.take (k + 1) = L.take k ++ [sT L k] := by rw [sT_eq]; rw [List.take_add_one]; simp [List.getD, hk]
  rw [h1, h2, h3, List.flatMap_append, List.append_nil]
  simp
theorem allQ_next {L : List St} {k q : Nat} (hq : q < 4) : allQ L k (q + 1) = allQ L k q ++ (if ((sT L k).ws.at q).v then [(sT L k).ws.at q] else []) := by
  unfold allQ
  rw [List.append_assoc]
  congr 1
  unfold lsK
  have h : [(sT L k).ws.a, (sT L k).ws.b, (sT L k).ws.c, (sT L k).ws.d][q]? = some ((sT L k).ws.at q) := by
    rcases k_four hq with rfl | rfl | rfl | rfl <;> rfl
  rw [List.take_add_one, List.filter_append, h]
  simp [List.filter_cons]
theorem lsK_len (s : Ws) (q : Nat) : (lsK s q).length ≤ 4 := by
  unfold lsK
  refine Nat.le_trans (List.length_filter_le _ _) ?_
  rw [List.length_take]
  simp; omega
theorem allQ_len {L : List St} {k q : Nat} : (allQ L k q).length ≤ 4 * L.length + 4 := by
  unfold allQ
  rw [List.length_append]
  have h1 := lsK_len (sT L k).ws q
  have h2 := all_le (L.take k)
  unfold allT at h2
  rw [List.length_take] at h2
  omega
attribute [irreducible] allQ lsK
/-- one entry behind a row that the call made -/
theorem run_append_en (w : World) (base : Nat) (v : Value) (M : List En) (hown : w.ownsRow base KE.e KE.sz v M.length (KE.flat M)) (e : En) (hn : M.length ≤ 100000) (hb : base ≤ w.heap.size) (ty : TypeId) :
    ∃ v' w', (Builtin.append_ #[70, 70] ty #[v, .slice (some ⟨w.heap.size, 0, none⟩) 1 1]).run Tryz.prog (w.alloc (.cells (enC e) 66)) = .ok v' w' ∧
      w'.ownsRow base KE.e KE.sz v' (M ++ [e]).length (KE.flat (M ++ [e])) ∧ Below base w w' := by
  have hblk := Blk.new w 66 (enC e)
  have hrow : RowV KE (w.alloc (.cells (enC e) 66)) (some ⟨w.heap.size, 0, none⟩) [e] 1 := by
    refine ⟨fun _ => ⟨w.heap.size, 0, rfl, hblk.lt, fun i hi => ?_⟩, (fun h => by cases h), (by simp), (by omega)⟩
    obtain rfl : i = 0 := by simp at hi; omega
    have := hblk.part 0 (ds := enC e) (by rw [Nat.zero_add]; simp)
    simpa [KE] using this
  have hown1 := World.ownsRow.alloc hown (.cells (enC e) 66)
  obtain ⟨v', w', h1, h2, h3, _⟩ := run_append_row ke_ok (w.alloc (.cells (enC e) 66)) base v M.length (KE.flat M) hown1 (some ⟨w.heap.size, 0, none⟩) [e] 1 hrow (by show (M.length + 1) * 56 ≤ _; omega) (by unfold maxLen; simp; omega) (by simp; omega) ty
  refine ⟨v', w', h1, by rw [flat_app, List.length_append]; exact h2, ?_⟩
  exact Below.grown (Below.alloc (Below.refl _ _) hb _) h3 (by simp; omega) (fun k hk => (hown1.lt k hk).1)
/-- a slice of one entry, as the model lays it -/
theorem en_fold (e : En) : Array.foldl (fun (cs : Array Value) (x : Value × Nat) => cs.setIfInBounds x.snd x.fst) #[.bool false, .int .u64 0, .bool false, .int .i64 0, .int .u64 0, .int .u64 0, .bool false, .bool false, .bool false, .bool false, .bool false] (enC e).zipIdx 0 11 = enC e := by
  simp only [enC_eq, pmC_eq]
  kernel_rfl
/-- what a call that makes entries leaves -/
def MadeE (M : List En) (w : World) (r : Ending) (w' : World) : Prop := ∃ A c, r = .returned (.slice A M.length c) ∧ RowV KE w' A M c ∧ (∀ a, A = some a → w.heap.size ≤ a.block) ∧ Ext w w'
set_option maxRecDepth 100000 in
set_option maxHeartbeats 2000000 in
theorem rall14_c (A : Option Addr) (L : List St) (c : Nat) (hL : L.length ≤ 1000) (w : World) (hr : RowV KS w A L c) :
    Calls Tryz.prog 23 #[.agg #[.slice A L.length c]] w (MadeE (allT L) w) := by
  have h1 := Blk.new w 24 #[.slice A L.length c]
  have HE := Lib.hid ((Ext.refl w).alloc (.cells #[.slice A L.length c] 24))
  have hrow : ∀ W : World, Ext w W → RowV KS W A L c := fun W h => hr.ext h
  have hlen := fun k q => allQ_len (L := L) (k := k) (q := q)
  clear hr
  go_enter Tryz.func23, Tryz.ntmps23
  go_wp2
  go_loopw [3, 4] (fun v i wr => ∃ k : Nat, k ≤ L.length ∧ i = .int .i64 k ∧ wr.ownsRow (w.heap.size + 1) KE.e KE.sz v (allQ L k 0).length (KE.flat (allQ L k 0)) ∧ w.heap.size + 1 ≤ wr.heap.size ∧ Blk wr w.heap.size 24 #[.slice A L.length c] ∧ Ext w wr) (fun _ i _ => (L.length - intOf i).toNat)
  case atStart => exact ⟨0, by omega, rfl, by rw [allQ_0]; exact World.ownsRow_nil _ _ _ _, by simp, h1, HE.out⟩
  case round =>
    clear h1 HE
    obtain ⟨k, hk, rfl, hown, hsz, h1, hE⟩ := hrel
    have HE := Lib.hid hE
    clear hE
    by_cases hlt : k < L.length
    · have hkz : (k : Int) < (L.length : Int) := by omega
      have x1 : wr.cell? ⟨w.heap.size, 0, none⟩ = some (.slice A L.length c) := (h1.cell 0).trans rfl
      have h4 := allQ_4 hlt
      clear hk
      go_wp2
      clear x1
      go_loopw [3, 5] (fun v i wr => ∃ q : Nat, q ≤ 4 ∧ i = .int .i64 q ∧ wr.ownsRow (w.heap.size + 1) KE.e KE.sz v (allQ L k q).length (KE.flat (allQ L k q)) ∧ w.heap.size + 1 ≤ wr.heap.size ∧ Blk wr w.heap.size 24 #[.slice A L.length c] ∧ Ext w wr) (fun _ i _ => (4 - intOf i).toNat)
      case atStart => exact ⟨0, by omega, rfl, hown, hsz, h1, HE.out⟩
      case round =>
        clear h1 HE hown hsz
        obtain ⟨q, hq, rfl, hown, hsz, h1, hE⟩ := hrel
        have HE := Lib.hid hE
        clear hE
        have x1 : wr.cell? ⟨w.heap.size, 0, none⟩ = some (.slice A L.length c) := (h1.cell 0).trans rfl
        by_cases hql : q < 4
        · have hqz : (q : Int) < 4 := by omega
          have hnx := allQ_next (L := L) (k := k) hql
          have hle := hlen k q
          obtain ⟨b, off, rfl, hb, hrx⟩ := (hrow _ HE.out).some (by omega)
          have e1 : wr.rangeAt b (off + k * 45) (stC (sT L k)).toList := by rw [sT_eq]; exact hrx k hlt
          have e2 := rng_way e1 hql
          clear hrx e1 hrow hlen h4 hq
          generalize (sT L k).ws.at q = e at *
          have x0 := rng_cell e2 0 (enC_v e)
          simp only [Nat.add_zero] at x0
          cases hv : e.v
          · rw [hv] at hnx x0
            rw [if_neg (by decide), List.append_nil] at hnx
            rw [← hnx] at hown
            clear hv hnx hle e2
            go_wp2
            go_roundw
            case rel => exact ⟨q + 1, by omega, by go_num, hown, hsz, h1, HE.out⟩
            case measure => simp [intOf]; omega
          · rw [hv] at hnx x0
            rw [if_pos rfl] at hnx
            have hap := fun ty => run_append_en wr (w.heap.size + 1) u3 (allQ L k q) hown e (by omega) hsz ty
            rw [← hnx] at hap
            have he11 := enC_size e
            have hfo := en_fold e
            clear hv hnx hle hown
            go_wp2_with (first | (refine wpList_load_rng (w := wr) (by rfl) 66 _ rfl rfl e2 Tryz.underlying66 rfl (en_info _) ?_) | (at_builtin; refine wpList_append_run' _ rfl _ _ _ rfl _ _ rfl rfl _ (hap _) ?_; rintro v3 w3 ⟨hown3, hB⟩; have h1b := Blk.lower h1 hB (by omega); have hsz3 := Nat.le_trans hsz hB.size; have HE3 : Hid (Ext w w3) := Lib.hid (Below.trans HE.out (Below.mono hB (Nat.le_succ _)))))
            go_roundw
            case rel => exact ⟨q + 1, by omega, by go_num, hown3, hsz3, h1b, HE3.out⟩
            case measure => simp [intOf]; omega
        · obtain rfl : q = 4 := by omega
          rw [h4] at hown
          go_wp2
          go_roundw
          case rel => exact ⟨k + 1, by omega, by go_num, hown, hsz, h1, HE.out⟩
          case measure => simp [intOf]; omega
    · obtain rfl : k = L.length := by omega
      rw [allQ_end] at hown
      have x1 : wr.cell? ⟨w.heap.size, 0, none⟩ = some (.slice A L.length c) := (h1.cell 0).trans rfl
      obtain ⟨A2, c2, rfl, hr2, hn2⟩ := own_rowv ke_ok hown
      go_wp2
      go_ret
      exact ⟨A2, c2, rfl, hr2, fun a h => by have := hn2 a h; omega, HE.out⟩
end Go.Proofs.YtlhoedpencmikaaGreatDoor
