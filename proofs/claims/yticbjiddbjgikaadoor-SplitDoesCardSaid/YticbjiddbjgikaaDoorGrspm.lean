/- atlasref19: With, Empty. -/
import Derived.Test.YticbjiddbjgikaaDoorGrtac
import Derived.Test.YticbjiddbjgikaaDoorGrsix
import Derived.Test.YticbjiddbjgikaaDoorGsplm
import Derived.Test.YticbjiddbjgikaaDoorGflo
namespace Go.Proofs.YticbjiddbjgikaaDoor
open Go.ChangeShapes Go.WideShapes Go.ChangeAt Go.RowKit
set_option linter.unusedVariables false
set_option linter.unusedSimpArgs false
set_option maxRecDepth 10000
attribute [local irreducible] World.setRow World.alloc Blk
set_option maxHeartbeats 4000000 in
theorem rwith19_c {S : Nat} {B : Option Addr} {L : List (Nat × Nat)} {d a s l : Nat} {p : Pt} {x : Spt} (w : World) (hM : Mem w S B L d) (hf : L.length ≤ 35990) (hx0 : x.tb = s) (hx1 : x.lv = (l : Int)) (hl : l ≤ 2) (ha : a < 18446744073709551616) (hs : s < S / 4096) (hmy : mayB p = true) :
    Calls Tryd.prog 23 #[.agg #[.int .u64 (S : Int), .slice B L.length d], .agg (sptC x), .int .u64 (a : Int), .agg (ptC p)] w (MdO S (stS L s (ixN a l) (putN p)) w) := by
  have hj5 := ixN_lt a l
  have hSle := hM.ok.le
  have hwb := put_lt hmy
  have cpu := fun W => rput_c p hmy W
  have cix := fun W => rindex5_c (a : Int) (l : Int) (by omega) (by omega) (by omega) (by omega) W
  rw [idx_ix] at cix
  have x0 := sptC_tb x
  have x1 := sptC_lv x
  rw [hx0] at x0
  rw [hx1] at x1
  generalize ixN a l = j at *
  have cst := fun W (m : Mem W S B L d) => rset_o m (p := 512 * s + j) (v := putN p) (K := stS L s j (putN p)) (by have := hM.ok.mod8; omega) hwb (by unfold stS; rw [store8_cut (by omega) hwb, show 8 * (512 * s + j) / 8 = 512 * s + j by omega]) (by unfold stS; exact storeL_is hM.rl (by have := hM.ok.mod8; omega) _ _) (by have := storeL_len L (8 * (512 * s + j)) 8 (putN p); unfold stS; omega)
  have hm : ∀ W : World, Ext w W → Mem W S B L d := fun W e => hM.ext e
  have hs1 : IntKind.u64.wrap (512 * (s : Int)) = 512 * (s : Int) := by rw [IntKind.wrap_u64]; omega
  have hs3 : IntKind.u64.wrap (512 * (s : Int) + (j : Int)) = ((512 * s + j : Nat) : Int) := by rw [IntKind.wrap_u64]; omega
  generalize sptC x = SP at *
  have h1 : Blk ((((w.alloc (.cells #[.int .u64 (S : Int), .slice B L.length d] 25)).alloc (.cells SP 34)).alloc (.cells (ptC p) 32)).alloc (.cells #[.int .u64 0, .slice none 0 0] 25)) w.heap.size 25 #[.int .u64 (S : Int), .slice B L.length d] := (((Blk.new w _ _).alloc _).alloc _).alloc _
  have h2 : Blk ((((w.alloc (.cells #[.int .u64 (S : Int), .slice B L.length d] 25)).alloc (.cells SP 34)).alloc (.cells (ptC p) 32)).alloc (.cells #[.int .u64 0, .slice none 0 0] 25)) (w.heap.size + 1) 34 SP := ((blk_at (by simp)).alloc _).alloc _
  have h3 : Blk ((((w.alloc (.cells #[.int .u64 (S : Int), .slice B L.length d] 25)).alloc (.cells SP 34)).alloc (.cells (ptC p) 32)).alloc (.cells #[.int .u64 0, .slice none 0 0] 25)) (w.heap.size + 1 + 1) 32 (ptC p) := (blk_at (by simp)).alloc _
  have k2 : Blk ((((w.alloc (.cells #[.int .u64 (S : Int), .slice B L.length d] 25)).alloc (.cells SP 34)).alloc (.cells (ptC p) 32)).alloc (.cells #[.int .u64 0, .slice none 0 0] 25)) (w.heap.size + 1 + 1 + 1) 25 #[.int .u64 0, .slice none 0 0] := blk_at (by simp)
  have HE := Lib.hid (((((Ext.refl w).alloc (.cells #[.int .u64 (S : Int), .slice B L.length d] 25)).alloc (.cells SP 34)).alloc (.cells (ptC p) 32)).alloc (.cells #[.int .u64 0, .slice none 0 0] 25))
  go_enter Tryd.func23, Tryd.ntmps23
  go_wp2_with fail
  generalize (((w.alloc (.cells #[.int .u64 (S : Int), .slice B L.length d] 25)).alloc (.cells SP 34)).alloc (.cells (ptC p) 32)).alloc (.cells #[.int .u64 0, .slice none 0 0] 25) = W1 at *
  generalize putN p = v at *
  generalize stS L s j v = K at *
  clear hM
  have hE := (Ext.refl W1).drew
  (try replace hm := hm.ext hE); (try replace h1 := h1.ext hE); (try replace h2 := h2.ext hE); (try replace h3 := h3.ext hE); (try replace k2 := k2.ext hE); (try replace hM := hM.ext hE); (try replace hN := hN.ext hE); (try replace HE := Lib.hid (HE.out.trans hE)); (try replace r0 := r0.ext hE); (try replace r1 := r1.ext hE); (try replace r2 := r2.ext hE); (try replace r3 := r3.ext hE); (try replace r4 := r4.ext hE); (try replace r5 := r5.ext hE); (try replace r6 := r6.ext hE)
  clear hE
  refine wp_region_seq [(0, false), (1, false), (2, false), (3, false), (4, false), (5, false), (6, false), (10, false), (7, true), (8, false), (9, false), (11, true), (12, true), (13, true)] (Gap (w.heap.size + 1 + 1 + 1) (w.heap.size + 1 + 1 + 1 + 1)) (by kernel_rfl) (by kernel_rfl) (Gap.refl _ _) (fun _ _ _ => Gap.trans) ?_; simp only [List.map, nth_z, nth_s]
  generalize W1.drew = w2 at *
  have hl2 := k2.lt
  refine seq_load rfl rfl (fun x hx => Gap.blk hx (h1) (by omega)) rfl Tryd.underlying25 (by kernel_rfl) (by rfl) ?_; intro K hK; simp only [Act.put, List.setIfInBounds_toArray, List.set_cons_zero, List.set_cons_succ]; refine hK _ ?_; clear hK K
  (repeat (first | (refine seq_skip (by rfl) ?_; intro K hK; simp only [Act.put, List.setIfInBounds_toArray, List.set_cons_zero, List.set_cons_succ]; refine hK _ ?_; clear hK K) | (refine seq_skipc (by rfl) ?_; intro K hK; simp only [Act.put, List.setIfInBounds_toArray, List.set_cons_zero, List.set_cons_succ]; refine hK _ ?_; clear hK K) | (refine seq_read (by rfl) (by rfl) ?_; intro K hK; go_big_quiet_op; first | go_big_quiet_on | (refine ⟨_, fun _ _ => rfl, ?_⟩; go_big_quiet_on))))
  refine seq_value (.int .u64 (s : Int)) (by rfl) (fun x hx => by have hq := ((Gap.blk hx (h2) (by omega)).cell 0).trans (x0); simp [go_sem, execOp, Act.eval, hq]) ?_; intro K hK; simp only [Act.put, List.setIfInBounds_toArray, List.set_cons_zero, List.set_cons_succ]; refine hK _ ?_; clear hK K
  (repeat (first | (refine seq_skip (by rfl) ?_; intro K hK; simp only [Act.put, List.setIfInBounds_toArray, List.set_cons_zero, List.set_cons_succ]; refine hK _ ?_; clear hK K) | (refine seq_skipc (by rfl) ?_; intro K hK; simp only [Act.put, List.setIfInBounds_toArray, List.set_cons_zero, List.set_cons_succ]; refine hK _ ?_; clear hK K) | (refine seq_read (by rfl) (by rfl) ?_; intro K hK; go_big_quiet_op; first | go_big_quiet_on | (refine ⟨_, fun _ _ => rfl, ?_⟩; go_big_quiet_on))))
  refine seq_value (.int .i64 (l : Int)) (by rfl) (fun x hx => by have hq := ((Gap.blk hx (h2) (by omega)).cell 1).trans (x1); simp [go_sem, execOp, Act.eval, hq]) ?_; intro K hK; simp only [Act.put, List.setIfInBounds_toArray, List.set_cons_zero, List.set_cons_succ]; refine hK _ ?_; clear hK K
  refine seq_load rfl rfl (fun x hx => Gap.blk hx (h3) (by omega)) rfl Tryd.underlying32 (pt_info _) (by rfl) ?_; intro K hK; simp only [Act.put, List.setIfInBounds_toArray, List.set_cons_zero, List.set_cons_succ]; refine hK _ ?_; clear hK K
  refine seq_call (calls_ext (cix _)) rfl Tryd.func30 (by kernel_rfl) (by kernel_rfl) (by rfl) (by rfl) ?_; intro K hK; rintro e w' ⟨rfl, hE⟩; refine ⟨_, rfl, (Gap.ext hE), ?_⟩; simp only [Act.put, List.setIfInBounds_toArray, List.set_cons_zero, List.set_cons_succ]; refine hK _ _ ?_; clear hK K
  (try replace hm := hm.ext hE); (try replace h1 := h1.ext hE); (try replace h2 := h2.ext hE); (try replace h3 := h3.ext hE); (try replace k2 := k2.ext hE); (try replace hM := hM.ext hE); (try replace hN := hN.ext hE); (try replace HE := Lib.hid (HE.out.trans hE)); (try replace r0 := r0.ext hE); (try replace r1 := r1.ext hE); (try replace r2 := r2.ext hE); (try replace r3 := r3.ext hE); (try replace r4 := r4.ext hE); (try replace r5 := r5.ext hE); (try replace r6 := r6.ext hE)
  clear hE
  (repeat (first | (refine seq_skip (by rfl) ?_; intro K hK; simp only [Act.put, List.setIfInBounds_toArray, List.set_cons_zero, List.set_cons_succ]; refine hK _ ?_; clear hK K) | (refine seq_skipc (by rfl) ?_; intro K hK; simp only [Act.put, List.setIfInBounds_toArray, List.set_cons_zero, List.set_cons_succ]; refine hK _ ?_; clear hK K) | (refine seq_read (by rfl) (by rfl) ?_; intro K hK; go_big_quiet_op; first | go_big_quiet_on | (refine ⟨_, fun _ _ => rfl, ?_⟩; go_big_quiet_on))))
  refine seq_call (cpu _) rfl Tryd.func38 (by kernel_rfl) (by kernel_rfl) (by rfl) (by rfl) ?_; intro K hK; rintro e w' ⟨rfl, hE⟩; refine ⟨_, rfl, (Gap.ext hE), ?_⟩; simp only [Act.put, List.setIfInBounds_toArray, List.set_cons_zero, List.set_cons_succ]; refine hK _ _ ?_; clear hK K
  (try replace hm := hm.ext hE); (try replace h1 := h1.ext hE); (try replace h2 := h2.ext hE); (try replace h3 := h3.ext hE); (try replace k2 := k2.ext hE); (try replace hM := hM.ext hE); (try replace hN := hN.ext hE); (try replace HE := Lib.hid (HE.out.trans hE)); (try replace r0 := r0.ext hE); (try replace r1 := r1.ext hE); (try replace r2 := r2.ext hE); (try replace r3 := r3.ext hE); (try replace r4 := r4.ext hE); (try replace r5 := r5.ext hE); (try replace r6 := r6.ext hE)
  clear hE
  have l2 := k2.lt
  refine seq_call (cst _ (hm _ HE.out)) rfl Tryd.func49 (by kernel_rfl) (by kernel_rfl) (by rfl) (by rfl) ?_; intro K hK; rintro e w' ⟨A9, c9, rfl, hN, ho, hE⟩; refine ⟨_, rfl, (Gap.ext hE), ?_⟩; simp only [Act.put, List.setIfInBounds_toArray, List.set_cons_zero, List.set_cons_succ]; refine hK _ _ ?_; clear hK K
  have hO1 := ho (w.heap.size + 1 + 1 + 1)
  have hO2 : ∀ lo, Out lo w.heap.size A9 K.length := fun lo => (ho lo).mono (by omega)
  (try replace hm := hm.ext hE); (try replace h1 := h1.ext hE); (try replace h2 := h2.ext hE); (try replace h3 := h3.ext hE); (try replace k2 := k2.ext hE); (try replace hM := hM.ext hE); (try replace hN := hN.ext hE); (try replace HE := Lib.hid (HE.out.trans hE)); (try replace r0 := r0.ext hE); (try replace r1 := r1.ext hE); (try replace r2 := r2.ext hE); (try replace r3 := r3.ext hE); (try replace r4 := r4.ext hE); (try replace r5 := r5.ext hE); (try replace r6 := r6.ext hE)
  clear hE ho
  refine seq_store_row rfl rfl rfl (k2) (by kernel_rfl) (by rfl) (by simp [Value.oneCell']) (by rfl) (Gap.row _ (by omega) (by omega) _) ?_; intro K hK; simp only [Act.put, List.setIfInBounds_toArray, List.set_cons_zero, List.set_cons_succ]; refine hK _ _ ?_; clear hK K
  refine seq_done ?_
  go_wp2
  (try simp only [Exit.inBlock, Exit.then]); refine bodyPost_ret (results_cell_row rfl _ _ _ _ _ _ _ rfl ((k2.row _).mem19) Tryd.underlying25 rfl (by kernel_rfl)) rfl ?_
  exact ⟨A9, c9, rfl, hN.row' hO1 (Nat.le_refl _) (by omega) _, hO2, HE.out.row (by omega) _⟩
theorem emp_yes {L : List (Nat × Nat)} {f : Nat} (h : ∀ j, j < L.length → atN L j / 512 ≠ f) : empB L f = true := by
  unfold empB
  rw [List.all_eq_true]
  intro x hx
  obtain ⟨j, hj, rfl⟩ := List.getElem_of_mem hx
  have := h j hj
  rw [atN_get hj] at this
  simpa using this
theorem emp_no {L : List (Nat × Nat)} {f j : Nat} (hj : j < L.length) (h : atN L j / 512 = f) : empB L f = false := by
  unfold empB
  rw [List.all_eq_false]
  rw [atN_get hj] at h
  exact ⟨L[j], List.getElem_mem hj, by simp [h]⟩
set_option maxHeartbeats 1000000 in
theorem rempty19_c {S : Nat} {B : Option Addr} {L : List (Nat × Nat)} {d f : Nat} (w : World) (hM : Mem w S B L d) (hf : f < 17592186044416) :
    Calls Tryd.prog 42 #[.agg #[.int .u64 (S : Int), .slice B L.length d], .int .u64 (f : Int)] w fun r w' => r = .returned (.bool (empB L f)) ∧ Ext w w' := by
  have h1 := Blk.new w 25 #[.int .u64 (S : Int), .slice B L.length d]
  have HE := Lib.hid ((Ext.refl w).alloc (.cells #[.int .u64 (S : Int), .slice B L.length d] 25))
  go_enter Tryd.func42, Tryd.ntmps42
  have hfew := hM.few
  have hrow := hM.row
  have hcs := hM.rl.isCells (by have := hM.ok.le; omega)
  have hc' : ∀ W : World, Ext w W → ClB W B L := fun W e => (hrow.ext e).1
  clear hrow hM
  go_wp2_with fail
  go_loopw [5] (fun i wr => ∃ k : Nat, k ≤ L.length ∧ i = .int .i64 k ∧ Hid (∀ j, j < k → atN L j / 512 ≠ f) ∧ Blk wr w.heap.size 25 #[.int .u64 (S : Int), .slice B L.length d] ∧ Ext w wr) (fun i _ => (L.length - intOf i).toNat)
  case atStart => exact ⟨0, by omega, rfl, Lib.hid fun j hj => by omega, h1, HE.out⟩
  case round =>
    clear h1 HE
    obtain ⟨k, hk, rfl, hq, h1, hE⟩ := hrel
    have x1 := h1.cell 1
    have HE := Lib.hid hE
    clear hE
    by_cases hlt : k < L.length
    · obtain ⟨b, off, rfl, hb, hc⟩ := (hc' _ HE.out) (by omega)
      obtain ⟨hc1, hc2⟩ := hc k hlt
      have hAt := (hcs k hlt).1
      have hz : (k : Int) < (L.length : Int) := by omega
      by_cases he : atN L k / 512 = f
      · have H := Lib.hid (emp_no hlt he)
        have hd : (((atN L k : Nat) : Int) / 512 == (f : Int)) = true := by simp; omega
        clear he hc hc' hcs
        generalize atN L k = ak at *
        go_wp2
        go_ret
        exact ⟨by rw [H.out]; rfl, HE.out⟩
      have hd : (((atN L k : Nat) : Int) / 512 == (f : Int)) = false := by simp; omega
      have hq1 : Hid (∀ j, j < k + 1 → atN L j / 512 ≠ f) := Lib.hid fun j hj => by
        by_cases e : j = k
        · subst e; exact he
        · exact hq.out j (by omega)
      clear he hc hcs
      generalize atN L k = ak at *
      go_wp2
      go_roundw
      case rel => exact ⟨k + 1, by omega, by go_num, hq1, h1, HE.out⟩
      case measure => simp [intOf]; omega
    · obtain rfl : k = L.length := by omega
      have hz := Lib.hid (emp_yes hq.out)
      clear hq hc' hcs
      go_wp2
      go_ret
      exact ⟨by rw [hz.out]; rfl, HE.out⟩
end Go.Proofs.YticbjiddbjgikaaDoor
/- atlasref20: Prune. -/
namespace Go.Proofs.YticbjiddbjgikaaDoor
open Go.ChangeShapes Go.WideShapes Go.ChangeAt Go.RowKit
set_option linter.unusedVariables false
set_option linter.unusedSimpArgs false
set_option maxRecDepth 10000
attribute [local irreducible] World.setRow World.alloc Blk
set_option maxHeartbeats 8000000 in
theorem rprune_c {S P M F n t a : Nat} {B : Option Addr} {L : List (Nat × Nat)} {d : Nat} (hfit : Fit S P M F n t L) (hpk : PoolK S P M) (hF : F < 2 ^ M) (hfew : L.length ≤ 35990) (hn : n ≤ 2) (ha : a < 18446744073709551616) (w : World) (hM : Mem w S B L d) :
    Calls Tryd.prog 20 #[.agg #[.int .u64 (S : Int), .slice B L.length d], (.agg #[.int .u64 (P : Int), .int .i64 (M : Int), .int .u64 (F : Int)]), .int .u64 (t : Int), .int .i64 (n : Int), .int .u64 (a : Int)] w fun r w' => ∃ B' d', r = .returned (.tuple #[.agg #[.int .u64 (S : Int), .slice B' (prS P M a n t n L F).1.length d'], (.agg #[.int .u64 (P : Int), .int .i64 (M : Int), .int .u64 ((prS P M a n t n L F).2 : Int)])]) ∧ Mem w' S B' (prS P M a n t n L F).1 d' ∧ Ext w w' := by
  have hp1 := hpk.p
  have hp2 := hpk.m
  have hst0 : ∀ k q, prS P M a n t k L F = q → PrIs S P M n t L q := fun k q e => by rw [← e]; exact pr_is hpk hfit hF k
  have hstep : ∀ k (q : List (Nat × Nat) × Nat), prS P M a n t k L F = q → (reachT q.1 a (k + 1) n t).2 = k + 1 → linkB (tE q.1 (reachT q.1 a (k + 1) n t).1 (ixN a (k + 1))) = true → empB q.1 (tE q.1 (reachT q.1 a (k + 1) n t).1 (ixN a (k + 1))).pp = true →
      UnlIs S P M q.2 n t q.1 (reachT q.1 a (k + 1) n t).1 (ixN a (k + 1)) k (tE q.1 (reachT q.1 a (k + 1) n t).1 (ixN a (k + 1))).pp ∧
      prS P M a n t (k + 1) L F = (stS (clrF q.1 (tE q.1 (reachT q.1 a (k + 1) n t).1 (ixN a (k + 1))).pp) (reachT q.1 a (k + 1) n t).1 (ixN a (k + 1)) 0, freedN P M q.2 (tE q.1 (reachT q.1 a (k + 1) n t).1 (ixN a (k + 1))).pp) := fun k q e c1 c2 c3 => by
    refine ⟨pr_one hpk (hst0 k q e) c1 c2 c3, ?_⟩
    rw [prS, e, if_pos (by rw [c1]; exact ⟨rfl, c2, c3⟩), c1]
  have hskip : ∀ k (q : List (Nat × Nat) × Nat), prS P M a n t k L F = q → ¬ ((reachT q.1 a (k + 1) n t).2 = k + 1 ∧ linkB (tE q.1 (reachT q.1 a (k + 1) n t).1 (ixN a (reachT q.1 a (k + 1) n t).2)) = true ∧ empB q.1 (tE q.1 (reachT q.1 a (k + 1) n t).1 (ixN a (reachT q.1 a (k + 1) n t).2)).pp = true) → prS P M a n t (k + 1) L F = q := fun k q e c => by
    rw [prS, e, if_neg c]
  have ht := hfit.tree.top
  have hSle := hM.ok.le
  have h0 : prS P M a n t 0 L F = (L, F) := rfl
  obtain ⟨h1, h2, k3, k4, hE⟩ := four_new w #[.int .u64 (S : Int), .slice B L.length d] #[.int .u64 (P : Int), .int .i64 (M : Int), .int .u64 (F : Int)]
  have HE := Lib.hid hE
  have hM1 := hM.ext hE
  have hO1 := hM.out (w.heap.size + 1 + 1 + 1 + 1)
  clear hE
  go_enter Tryd.func20, Tryd.ntmps20
  go_wp2_with fail
  generalize (((w.alloc (.cells #[.int .u64 (S : Int), .slice B L.length d] 25)).alloc (.cells #[.int .u64 (P : Int), .int .i64 (M : Int), .int .u64 (F : Int)] 27)).alloc (.cells #[.int .u64 0, .slice none 0 0] 25)).alloc (.cells #[.int .u64 0, .int .i64 0, .int .u64 0] 27) = W1 at *
  go_loopw [12] (fun i wr => ∃ (k : Nat) (q : List (Nat × Nat) × Nat) (B1 : Option Addr) (d1 : Nat), k ≤ n ∧ i = .int .i64 k ∧ Hid (prS P M a n t k L F = q) ∧ Blk wr w.heap.size 25 #[.int .u64 (S : Int), .slice B1 q.1.length d1] ∧ Blk wr (w.heap.size + 1) 27 #[.int .u64 (P : Int), .int .i64 (M : Int), .int .u64 (q.2 : Int)] ∧
      Blk wr (w.heap.size + 1 + 1) 25 #[.int .u64 0, .slice none 0 0] ∧ Blk wr (w.heap.size + 1 + 1 + 1) 27 #[.int .u64 0, .int .i64 0, .int .u64 0] ∧ Mem wr S B1 q.1 d1 ∧ Out w.heap.size (w.heap.size + 1 + 1 + 1 + 1) B1 q.1.length ∧ Ext w wr) (fun i _ => (n - intOf i).toNat)
  case atStart => exact ⟨0, (L, F), B, d, by omega, rfl, Lib.hid h0, h1, h2, k3, k4, hM1, hO1, HE.out⟩
  case round =>
    clear h1 h2 k3 k4 hM1 hO1 HE hM h0
    obtain ⟨k, q, B1, d1, hk, rfl, hq, h1, h2, k3, k4, hM1, hO1, hE⟩ := hrel
    have HE := Lib.hid hE
    clear hE
    have l4 := k4.lt
    by_cases hlt : k < n
    case neg =>
      obtain rfl : k = n := by omega
      clear hst0 hstep hskip hlt hk
      go_wp2_with fail
      have hE := (Ext.refl wr).drew
      replace hM1 := hM1.ext hE
      (try replace h1 := h1.ext hE); (try replace h2 := h2.ext hE); (try replace h5 := h5.ext hE); (try replace h6 := h6.ext hE); (try replace h7 := h7.ext hE); (try replace k3 := k3.ext hE); (try replace k4 := k4.ext hE); (try replace hM := hM.ext hE); (try replace HE := Lib.hid (HE.out.trans hE)); (try replace r0 := r0.ext hE); (try replace r1 := r1.ext hE); (try replace r2 := r2.ext hE); (try replace r3 := r3.ext hE); (try replace r4 := r4.ext hE); (try replace r5 := r5.ext hE); (try replace r6 := r6.ext hE)
      clear hE
      refine wp_region_seq [(0, false), (1, false), (2, true), (3, true)] (Gap (w.heap.size + 1 + 1) (w.heap.size + 1 + 1 + 1 + 1)) (by kernel_rfl) (by kernel_rfl) (Gap.refl _ _) (fun _ _ _ => Gap.trans) ?_; simp only [List.map, nth_z, nth_s]
      generalize wr.drew = w2 at *
      refine seq_load rfl rfl (fun x hx => Gap.blk hx (h1) (by omega)) rfl Tryd.underlying25 (by kernel_rfl) (by rfl) ?_; intro K hK; simp only [Act.put, List.setIfInBounds_toArray, List.set_cons_zero, List.set_cons_succ]; refine hK _ ?_; clear hK K
      refine seq_load rfl rfl (fun x hx => Gap.blk hx (h2) (by omega)) rfl Tryd.underlying27 (by kernel_rfl) (by rfl) ?_; intro K hK; simp only [Act.put, List.setIfInBounds_toArray, List.set_cons_zero, List.set_cons_succ]; refine hK _ ?_; clear hK K
      refine seq_store_row rfl rfl rfl (k3) (by kernel_rfl) (by rfl) (by simp [Value.oneCell']) (by rfl) (Gap.row _ (by omega) (by omega) _) ?_; intro K hK; simp only [Act.put, List.setIfInBounds_toArray, List.set_cons_zero, List.set_cons_succ]; refine hK _ _ ?_; clear hK K
      replace k4 := k4.apart (show w.heap.size + 1 + 1 + 1 ≠ w.heap.size + 1 + 1 by omega) #[.int .u64 (S : Int), .slice B1 q.1.length d1]
      refine seq_store_row rfl rfl rfl (k4) (by kernel_rfl) (by rfl) (by simp [Value.oneCell']) (by rfl) (Gap.row _ (by omega) (by omega) _) ?_; intro K hK; simp only [Act.put, List.setIfInBounds_toArray, List.set_cons_zero, List.set_cons_succ]; refine hK _ _ ?_; clear hK K
      refine seq_done ?_
      go_wp2
      (try simp only [Exit.inBlock, Exit.then]); (try rw [Exit.noGoto_ret]); refine bodyPost_ret (results_cc rfl _ _ rfl rfl (((k3.row _).apart (by omega) _)) ((k4.row _)) Tryd.underlying25 rfl (by first | exact xx_info _ | kernel_rfl) Tryd.underlying27 rfl (by first | exact xx_info _ | kernel_rfl)) rfl ?_
      have hE2 := (HE.out.row (show w.heap.size ≤ w.heap.size + 1 + 1 by omega) #[.int .u64 (S : Int), .slice B1 q.1.length d1]).row (show w.heap.size ≤ w.heap.size + 1 + 1 + 1 by omega) #[.int .u64 (P : Int), .int .i64 (M : Int), .int .u64 (q.2 : Int)]
      rw [hq.out]
      exact ⟨B1, d1, rfl, (hM1.row' hO1 (by omega) (by omega) _).row' hO1 (by omega) (by omega) _, hE2⟩
    have hI := hst0 k q hq.out
    have cre := fun W (m : Mem W S B1 q.1 d1) => rreach19_c (k := k + 1) ha (by omega) n hn t W (by omega) m
    have hsp : spotW q.1 (k + 1) n t a = ⟨(reachT q.1 a (k + 1) n t).1, ((reachT q.1 a (k + 1) n t).2 : Int), tE q.1 (reachT q.1 a (k + 1) n t).1 (ixN a (reachT q.1 a (k + 1) n t).2)⟩ := by unfold spotW; rfl
    have hr2 : (reachT q.1 a (k + 1) n t).2 ≤ n := tabs_le (reach_mem q.1 a (k + 1) n t)
    have hst := hstep k q hq.out
    have hsk := hskip k q hq.out
    clear hst0 hstep hskip
    obtain ⟨r, hr⟩ : ∃ r, reachT q.1 a (k + 1) n t = r := ⟨_, rfl⟩
    rw [hr] at hsp hst hsk hr2
    clear hr
    rw [hsp] at cre
    clear hsp
    have cem := fun W (m : Mem W S B1 q.1 d1) => rempty19_c (f := (tE q.1 r.1 (ixN a r.2)).pp) W m (tE_pp _ _ _)
    have clk := fun W => rlink_c (tE q.1 r.1 (ixN a r.2)) W
    have x1 : (sptC (⟨r.1, (r.2 : Int), tE q.1 r.1 (ixN a r.2)⟩ : Spt))[1]? = some (.int .i64 (r.2 : Int)) := sptC_lv _
    have x11 : (sptC (⟨r.1, (r.2 : Int), tE q.1 r.1 (ixN a r.2)⟩ : Spt))[11]? = some (.int .u64 ((tE q.1 r.1 (ixN a r.2)).pp : Int)) := by simp only [sptC_eq, ptC_eq]; rfl
    have hpt : (sptC (⟨r.1, (r.2 : Int), tE q.1 r.1 (ixN a r.2)⟩ : Spt)).extract 2 (2 + (ptC (tE q.1 r.1 (ixN a r.2))).size) = ptC (tE q.1 r.1 (ixN a r.2)) := sptC_pt _
    have hZ : Tryd.prog.info? 34 = Tryd.prog.info? 34 := rfl
    clear hZ
    have hs0 : (⟨r.1, (r.2 : Int), tE q.1 r.1 (ixN a r.2)⟩ : Spt).tb = r.1 ∧ (⟨r.1, (r.2 : Int), tE q.1 r.1 (ixN a r.2)⟩ : Spt).lv = (r.2 : Int) := ⟨rfl, rfl⟩
    generalize (⟨r.1, (r.2 : Int), tE q.1 r.1 (ixN a r.2)⟩ : Spt) = SP at *
    obtain ⟨r1, r2⟩ := r
    simp only at hst hsk hr2 cem clk x1 x11 hpt hs0
    obtain ⟨p, hp⟩ : ∃ p, tE q.1 r1 (ixN a r2) = p := ⟨_, rfl⟩
    have hpp : p.pp < 17592186044416 := by rw [← hp]; exact tE_pp _ _ _
    by_cases c1 : r2 = k + 1
    case neg =>
      have hnx := Lib.hid (hsk fun c => c1 c.1)
      have d1' : (((r2 : Nat) : Int) != (k : Int) + 1) = true := by simp; omega
      clear hst hsk cem clk x11 hpt hp c1 hI hs0
      go_wp2_with (refine wpList_load_blk (by rfl) 25 _ rfl rfl h1 Tryd.underlying25 rfl (by kernel_rfl) ?_)
      refine (cre _ hM1).mono ?_
      rintro e w5 ⟨rfl, hE⟩
      replace hM1 := hM1.ext hE
      (try replace h1 := h1.ext hE); (try replace h2 := h2.ext hE); (try replace h5 := h5.ext hE); (try replace h6 := h6.ext hE); (try replace h7 := h7.ext hE); (try replace k3 := k3.ext hE); (try replace k4 := k4.ext hE); (try replace hM := hM.ext hE); (try replace HE := Lib.hid (HE.out.trans hE)); (try replace r0 := r0.ext hE); (try replace r1 := r1.ext hE); (try replace r2 := r2.ext hE); (try replace r3 := r3.ext hE); (try replace r4 := r4.ext hE); (try replace r5 := r5.ext hE); (try replace r6 := r6.ext hE)
      clear hE cre
      have zz1 : Blk (w5.alloc (.cells #[.int .u64 0, .int .i64 0, .bool false, .bool false, .bool false, .bool false, .bool false, .bool false, .bool false, .bool false, .int .u64 0, .int .u64 0, .int .u64 0] 34)) w5.heap.size 34 #[.int .u64 0, .int .i64 0, .bool false, .bool false, .bool false, .bool false, .bool false, .bool false, .bool false, .bool false, .int .u64 0, .int .u64 0, .int .u64 0] := Blk.new _ _ _; have hE := ((Ext.refl w5).alloc (.cells #[.int .u64 0, .int .i64 0, .bool false, .bool false, .bool false, .bool false, .bool false, .bool false, .bool false, .bool false, .int .u64 0, .int .u64 0, .int .u64 0] 34)).row (Nat.le_refl w5.heap.size) (sptC SP); have hE0 := hE; (try replace h1 := h1.ext hE); (try replace h2 := h2.ext hE); (try replace h5 := h5.ext hE); (try replace h6 := h6.ext hE); (try replace h7 := h7.ext hE); (try replace k3 := k3.ext hE); (try replace k4 := k4.ext hE); (try replace hM := hM.ext hE); (try replace HE := Lib.hid (HE.out.trans hE)); (try replace r0 := r0.ext hE); (try replace r1 := r1.ext hE); (try replace r2 := r2.ext hE); (try replace r3 := r3.ext hE); (try replace r4 := r4.ext hE); (try replace r5 := r5.ext hE); (try replace r6 := r6.ext hE); clear hE; have h5 := zz1.row (sptC SP)
      replace hM1 := hM1.ext hE0
      clear hE0
      have y1 := (h5.cell 1).trans x1
      go_wp2_with (first | ((refine wpList_store_blk rfl 34 _ _ rfl rfl rfl zz1 (spt_info _) (by simp [sptC_size]) (sptC_one _) ?_); clear zz1; generalize (w5.alloc (.cells #[.int .u64 0, .int .i64 0, .bool false, .bool false, .bool false, .bool false, .bool false, .bool false, .bool false, .bool false, .int .u64 0, .int .u64 0, .int .u64 0] 34)).setRow w5.heap.size (sptC SP) = X at *) | (refine wpList_load_blk (by rfl) 25 _ rfl rfl h1 Tryd.underlying25 rfl (by kernel_rfl) ?_))
      go_roundw
      case rel => exact ⟨k + 1, q, B1, d1, by omega, by go_num, hnx, h1, h2, k3, k4, hM1, hO1, HE.out⟩
      case measure => simp [intOf]; omega
    subst c1
    rw [hp] at hst hsk cem clk x11 hpt
    have d1' : (((k + 1 : Nat) : Int) != (k : Int) + 1) = false := by simp
    go_wp2_with (refine wpList_load_blk (by rfl) 25 _ rfl rfl h1 Tryd.underlying25 rfl (by kernel_rfl) ?_)
    refine (cre _ hM1).mono ?_
    rintro e w5 ⟨rfl, hE⟩
    replace hM1 := hM1.ext hE
    (try replace h1 := h1.ext hE); (try replace h2 := h2.ext hE); (try replace h5 := h5.ext hE); (try replace h6 := h6.ext hE); (try replace h7 := h7.ext hE); (try replace k3 := k3.ext hE); (try replace k4 := k4.ext hE); (try replace hM := hM.ext hE); (try replace HE := Lib.hid (HE.out.trans hE)); (try replace r0 := r0.ext hE); (try replace r1 := r1.ext hE); (try replace r2 := r2.ext hE); (try replace r3 := r3.ext hE); (try replace r4 := r4.ext hE); (try replace r5 := r5.ext hE); (try replace r6 := r6.ext hE)
    clear hE cre
    have zz1 : Blk (w5.alloc (.cells #[.int .u64 0, .int .i64 0, .bool false, .bool false, .bool false, .bool false, .bool false, .bool false, .bool false, .bool false, .int .u64 0, .int .u64 0, .int .u64 0] 34)) w5.heap.size 34 #[.int .u64 0, .int .i64 0, .bool false, .bool false, .bool false, .bool false, .bool false, .bool false, .bool false, .bool false, .int .u64 0, .int .u64 0, .int .u64 0] := Blk.new _ _ _; have hE := ((Ext.refl w5).alloc (.cells #[.int .u64 0, .int .i64 0, .bool false, .bool false, .bool false, .bool false, .bool false, .bool false, .bool false, .bool false, .int .u64 0, .int .u64 0, .int .u64 0] 34)).row (Nat.le_refl w5.heap.size) (sptC SP); have hE0 := hE; (try replace h1 := h1.ext hE); (try replace h2 := h2.ext hE); (try replace h5 := h5.ext hE); (try replace h6 := h6.ext hE); (try replace h7 := h7.ext hE); (try replace k3 := k3.ext hE); (try replace k4 := k4.ext hE); (try replace hM := hM.ext hE); (try replace HE := Lib.hid (HE.out.trans hE)); (try replace r0 := r0.ext hE); (try replace r1 := r1.ext hE); (try replace r2 := r2.ext hE); (try replace r3 := r3.ext hE); (try replace r4 := r4.ext hE); (try replace r5 := r5.ext hE); (try replace r6 := r6.ext hE); clear hE; have h5 := zz1.row (sptC SP)
    replace hM1 := hM1.ext hE0
    clear hE0
    have y1 := (h5.cell 1).trans x1
    have y11 := (h5.cell 11).trans x11
    go_wp2_with (first | ((refine wpList_store_blk rfl 34 _ _ rfl rfl rfl zz1 (spt_info _) (by simp [sptC_size]) (sptC_one _) ?_); clear zz1; generalize (w5.alloc (.cells #[.int .u64 0, .int .i64 0, .bool false, .bool false, .bool false, .bool false, .bool false, .bool false, .bool false, .bool false, .int .u64 0, .int .u64 0, .int .u64 0] 34)).setRow w5.heap.size (sptC SP) = X at *) | (refine wpList_load_part (by rfl) 32 _ rfl rfl h5 (hpt) Tryd.underlying32 rfl (pt_info _) ?_))
    clear y1
    refine (clk _).mono ?_
    rintro e w6 ⟨rfl, hE⟩
    replace hM1 := hM1.ext hE
    (try replace h1 := h1.ext hE); (try replace h2 := h2.ext hE); (try replace h5 := h5.ext hE); (try replace h6 := h6.ext hE); (try replace h7 := h7.ext hE); (try replace k3 := k3.ext hE); (try replace k4 := k4.ext hE); (try replace hM := hM.ext hE); (try replace HE := Lib.hid (HE.out.trans hE)); (try replace r0 := r0.ext hE); (try replace r1 := r1.ext hE); (try replace r2 := r2.ext hE); (try replace r3 := r3.ext hE); (try replace r4 := r4.ext hE); (try replace r5 := r5.ext hE); (try replace r6 := r6.ext hE)
    clear hE clk
    cases hl : linkB p
    case false =>
      have hnx := Lib.hid (hsk fun c => by rw [hl] at c; exact absurd c.2.1 (by decide))
      clear hst hsk cem x1 x11 y11 hpt hp hI hs0 hl h5
      go_wp2
      go_roundw
      case rel => exact ⟨k + 1, q, B1, d1, by omega, by go_num, hnx, h1, h2, k3, k4, hM1, hO1, HE.out⟩
      case measure => simp [intOf]; omega
    have y11 := (h5.cell 11).trans x11
    go_wp2_with (refine wpList_load_blk (by rfl) 25 _ rfl rfl h1 Tryd.underlying25 rfl (by kernel_rfl) ?_)
    refine (cem _ hM1).mono ?_
    rintro e w7 ⟨rfl, hE⟩
    replace hM1 := hM1.ext hE
    (try replace h1 := h1.ext hE); (try replace h2 := h2.ext hE); (try replace h5 := h5.ext hE); (try replace h6 := h6.ext hE); (try replace h7 := h7.ext hE); (try replace k3 := k3.ext hE); (try replace k4 := k4.ext hE); (try replace hM := hM.ext hE); (try replace HE := Lib.hid (HE.out.trans hE)); (try replace r0 := r0.ext hE); (try replace r1 := r1.ext hE); (try replace r2 := r2.ext hE); (try replace r3 := r3.ext hE); (try replace r4 := r4.ext hE); (try replace r5 := r5.ext hE); (try replace r6 := r6.ext hE)
    clear hE cem
    cases hem : empB q.1 p.pp
    case false =>
      have hnx := Lib.hid (hsk fun c => by rw [hem] at c; exact absurd c.2.2 (by decide))
      clear hst hsk x1 x11 y11 hpt hp hI hs0 hl h5 hem
      go_wp2
      go_roundw
      case rel => exact ⟨k + 1, q, B1, d1, by omega, by go_num, hnx, h1, h2, k3, k4, hM1, hO1, HE.out⟩
      case measure => simp [intOf]; omega
    obtain ⟨hU, hnx⟩ := hst (by trivial) hl hem
    have Hnx := Lib.hid hnx
    have hUst := hU.st
    have hUlt := hU.lt
    have hUl := hU.len
    have hIl := hI.len
    have hq64 : q.2 < 18446744073709551616 := Nat.lt_of_lt_of_le hI.bits (Nat.pow_le_pow_right (by decide) hp2)
    have hclr : (clrF q.1 p.pp).length ≤ q.1.length := by unfold clrF; exact cutL_len (by omega) []
    have cbk := fun W (m : Mem W S B1 q.1 d1) => rback19_o (P := P) (M := M) (F := q.2) (f := p.pp) hp1 hp2 hq64 (by omega) W m
    have cwi := fun W B' d' (m : Mem W S B' (clrF q.1 p.pp) d') => rwith19_c (a := a) (p := getP 0) (x := SP) W m (by omega) hs0.1 hs0.2 (by omega) ha hUst (may_get (by decide))
    rw [put_get (show 0 < 18446744073709551616 by decide), show ptC (getP 0) = #[.bool false, .bool false, .bool false, .bool false, .bool false, .bool false, .bool false, .bool false, .int .u64 0, .int .u64 0, .int .u64 0] by rw [ptC_eq]; unfold getP; simp] at cwi
    unfold MdO at cwi
    have y11 := (h5.cell 11).trans x11
    clear hst hsk hnx hU hI hl hem hp hUst hUlt hs0 x1
    generalize clrF q.1 p.pp = K at *
    generalize stS K r1 (ixN a (k + 1)) 0 = K2 at *
    generalize freedN P M q.2 p.pp = G at *
    go_wp2_with (first | (refine wpList_load_blk (by rfl) 25 _ rfl rfl h1 Tryd.underlying25 rfl (by kernel_rfl) ?_) | (refine wpList_load_blk (by rfl) 27 _ rfl rfl h2 Tryd.underlying27 rfl (by kernel_rfl) ?_))
    refine (cbk _ hM1).mono ?_
    rintro e w8 ⟨B2, d2, rfl, hM2, hO2, hE⟩
    (try replace h1 := h1.ext hE); (try replace h2 := h2.ext hE); (try replace h5 := h5.ext hE); (try replace h6 := h6.ext hE); (try replace h7 := h7.ext hE); (try replace k3 := k3.ext hE); (try replace k4 := k4.ext hE); (try replace hM := hM.ext hE); (try replace HE := Lib.hid (HE.out.trans hE)); (try replace r0 := r0.ext hE); (try replace r1 := r1.ext hE); (try replace r2 := r2.ext hE); (try replace r3 := r3.ext hE); (try replace r4 := r4.ext hE); (try replace r5 := r5.ext hE); (try replace r6 := r6.ext hE)
    clear hE cbk hM1
    have l8 := k4.lt
    have h6 : Blk ((w8.alloc (.cells #[.int .u64 (S : Int), .slice B2 K.length d2] 25)).alloc (.cells #[.int .u64 (P : Int), .int .i64 (M : Int), .int .u64 (G : Int)] 27)) w8.heap.size 25 #[.int .u64 (S : Int), .slice B2 K.length d2] := (Blk.new w8 _ _).alloc _
    have h7 : Blk ((w8.alloc (.cells #[.int .u64 (S : Int), .slice B2 K.length d2] 25)).alloc (.cells #[.int .u64 (P : Int), .int .i64 (M : Int), .int .u64 (G : Int)] 27)) (w8.heap.size + 1) 27 #[.int .u64 (P : Int), .int .i64 (M : Int), .int .u64 (G : Int)] := blk_at (by simp)
    have hE := ((Ext.refl w8).alloc (.cells #[.int .u64 (S : Int), .slice B2 K.length d2] 25)).alloc (.cells #[.int .u64 (P : Int), .int .i64 (M : Int), .int .u64 (G : Int)] 27)
    replace hM2 := hM2.ext hE
    have h6b := h6
    have h7b := h7
    clear h6 h7
    (try replace h1 := h1.ext hE); (try replace h2 := h2.ext hE); (try replace h5 := h5.ext hE); (try replace h6 := h6.ext hE); (try replace h7 := h7.ext hE); (try replace k3 := k3.ext hE); (try replace k4 := k4.ext hE); (try replace hM := hM.ext hE); (try replace HE := Lib.hid (HE.out.trans hE)); (try replace r0 := r0.ext hE); (try replace r1 := r1.ext hE); (try replace r2 := r2.ext hE); (try replace r3 := r3.ext hE); (try replace r4 := r4.ext hE); (try replace r5 := r5.ext hE); (try replace r6 := r6.ext hE)
    clear hE
    have l9 := h7b.lt
    clear y11
    go_wp2_with (first | (refine wpList_load_blk (by rfl) 34 _ rfl rfl h5 Tryd.underlying34 rfl (by kernel_rfl) ?_) | (refine wpList_load_blk (by rfl) 25 _ rfl rfl h6b Tryd.underlying25 rfl (by kernel_rfl) ?_))
    generalize (w8.alloc (.cells #[.int .u64 (S : Int), .slice B2 K.length d2] 25)).alloc (.cells #[.int .u64 (P : Int), .int .i64 (M : Int), .int .u64 (G : Int)] 27) = w9 at *
    refine (cwi _ _ _ hM2).mono ?_
    rintro e w10 ⟨B3, d3, rfl, hM3, hO3, hE⟩
    have h7 := h7b.ext hE
    (try replace h1 := h1.ext hE); (try replace h2 := h2.ext hE); (try replace h5 := h5.ext hE); (try replace h6 := h6.ext hE); (try replace h7 := h7.ext hE); (try replace k3 := k3.ext hE); (try replace k4 := k4.ext hE); (try replace hM := hM.ext hE); (try replace HE := Lib.hid (HE.out.trans hE)); (try replace r0 := r0.ext hE); (try replace r1 := r1.ext hE); (try replace r2 := r2.ext hE); (try replace r3 := r3.ext hE); (try replace r4 := r4.ext hE); (try replace r5 := r5.ext hE); (try replace r6 := r6.ext hE)
    clear hE cwi hM2 h6b h7b h5
    have hO4 : Out w.heap.size (w.heap.size + 1 + 1 + 1 + 1) B3 K2.length := (hO3 w.heap.size).mono (by omega)
    have hgs : w8.heap.size + 1 ≠ w.heap.size ∧ w8.heap.size + 1 ≠ w.heap.size + 1 := ⟨by omega, by omega⟩
    have h2s := h2.apart (show w.heap.size + 1 ≠ w.heap.size by omega) #[.int .u64 (S : Int), .slice B3 K2.length d3]
    have h7s := h7.apart hgs.1 #[.int .u64 (S : Int), .slice B3 K2.length d3]
    have h1f := (h1.row #[.int .u64 (S : Int), .slice B3 K2.length d3]).apart (show w.heap.size ≠ w.heap.size + 1 by omega) #[.int .u64 (P : Int), .int .i64 (M : Int), .int .u64 (G : Int)]
    have h2f := h2s.row #[.int .u64 (P : Int), .int .i64 (M : Int), .int .u64 (G : Int)]
    have k3f := (k3.apart (show w.heap.size + 1 + 1 ≠ w.heap.size by omega) #[.int .u64 (S : Int), .slice B3 K2.length d3]).apart (show w.heap.size + 1 + 1 ≠ w.heap.size + 1 by omega) #[.int .u64 (P : Int), .int .i64 (M : Int), .int .u64 (G : Int)]
    have k4f := (k4.apart (show w.heap.size + 1 + 1 + 1 ≠ w.heap.size by omega) #[.int .u64 (S : Int), .slice B3 K2.length d3]).apart (show w.heap.size + 1 + 1 + 1 ≠ w.heap.size + 1 by omega) #[.int .u64 (P : Int), .int .i64 (M : Int), .int .u64 (G : Int)]
    have hMf := (hM3.row' hO4 (show w.heap.size ≤ w.heap.size by omega) (by omega) #[.int .u64 (S : Int), .slice B3 K2.length d3]).row' hO4 (show w.heap.size ≤ w.heap.size + 1 by omega) (by omega) #[.int .u64 (P : Int), .int .i64 (M : Int), .int .u64 (G : Int)]
    have HEf := Lib.hid ((HE.out.row (show w.heap.size ≤ w.heap.size by omega) #[.int .u64 (S : Int), .slice B3 K2.length d3]).row (show w.heap.size ≤ w.heap.size + 1 by omega) #[.int .u64 (P : Int), .int .i64 (M : Int), .int .u64 (G : Int)])
    have Hgs := Lib.hid hgs
    clear HE k3 k4 hgs l8 l9 h7 hM3 hO3 h2
    go_wp2_with (first | (refine wpList_store_blk rfl 25 _ _ rfl rfl rfl h1 (by kernel_rfl) (by rfl) (by simp [Value.oneCell']) ?_) | (refine wpList_load_blk (by rfl) 27 _ rfl rfl h7s Tryd.underlying27 rfl (by kernel_rfl) ?_) | (refine wpList_store_blk rfl 27 _ _ rfl rfl rfl h2s (by kernel_rfl) (by rfl) (by simp [Value.oneCell']) ?_))
    go_roundw
    case rel => exact ⟨k + 1, (K2, G), B3, d3, by omega, by go_num, Hnx, h1f, h2f, k3f, k4f, hMf, hO4, HEf.out⟩
    case measure => simp [intOf]; omega
end Go.Proofs.YticbjiddbjgikaaDoor
/- atlasref20: Down. -/
namespace Go.Proofs.YticbjiddbjgikaaDoor
open Go.ChangeShapes Go.WideShapes Go.ChangeAt Go.RowKit
set_option linter.unusedVariables false
set_option linter.unusedSimpArgs false
set_option maxRecDepth 10000
attribute [local irreducible] World.setRow World.alloc Blk
theorem results_ccct {fn : Func} {p q r u : Tmp} {tp tq tr : TypeId} {P : Program} (h : fn.results = #[.cell p tp, .cell q tq, .cell r tr, .tmp u]) (tmps : Array Value) (w : World) {g k m : Nat} {t y v : TypeId} {cs ds es : Array Value} {d e f : TypeDesc}
    (hp : tmps.getD p undef = .pointer (some ⟨g, 0, none⟩)) (hq : tmps.getD q undef = .pointer (some ⟨k, 0, none⟩)) (hr : tmps.getD r undef = .pointer (some ⟨m, 0, none⟩)) (hg : Blk w g t cs) (hk : Blk w k y ds) (hm : Blk w m v es)
    (hu : P.underlying tp = some d) (hd : d.isRow = true) (hi : (P.info? tp).map (·.size) = some cs.size) (hu2 : P.underlying tq = some e) (hd2 : e.isRow = true) (hi2 : (P.info? tq).map (·.size) = some ds.size)
    (hu3 : P.underlying tr = some f) (hd3 : f.isRow = true) (hi3 : (P.info? tr).map (·.size) = some es.size) :
    (results fn tmps).run P w = .ok (.tuple #[.agg cs, .agg ds, .agg es, tmps.getD u undef]) w := by
  have hp' : tmps[p]?.getD undef = .pointer (some ⟨g, 0, none⟩) := by simpa using hp
  have hq' : tmps[q]?.getD undef = .pointer (some ⟨k, 0, none⟩) := by simpa using hq
  have hr' : tmps[r]?.getD undef = .pointer (some ⟨m, 0, none⟩) := by simpa using hr
  simp only [results, h]
  simp [Sem.run_bind, Result.andThen, hp', hq', hr', asAddr, run_result hg hu hd hi, run_result hk hu2 hd2 hi2, run_result hm hu3 hd3 hi3]
theorem zs_cells : sptC ⟨0, 0, getP 0⟩ = #[.int .u64 0, .int .i64 0, .bool false, .bool false, .bool false, .bool false, .bool false, .bool false, .bool false, .bool false, .int .u64 0, .int .u64 0, .int .u64 0] := by rw [sptC_eq, ptC_eq]; unfold getP; simp
theorem zs_built : Tryd.prog.built 34 [] = some (sptC ⟨0, 0, getP 0⟩) := by rw [zs_cells]; kernel_rfl
/-- what Down answers -/
def DnT (S P M a k : Nat) (L : List (Nat × Nat)) (F : Nat) (D : Nat × List (Nat × Nat) × Nat × Nat) (w : World) (r : Ending) (w' : World) : Prop :=
  ∃ B d, Ext w w' ∧ ((D.1 = 0 ∧ r = .returned (.tuple #[.agg #[.int .u64 (S : Int), .slice B D.2.1.length d], (.agg #[.int .u64 (P : Int), .int .i64 (M : Int), .int .u64 (D.2.2.1 : Int)]), .agg (sptC ⟨D.2.2.2, (k : Int), tE D.2.1 D.2.2.2 (ixN a k)⟩), .int .i64 0]) ∧ Mem w' S B D.2.1 d) ∨
    (D.1 ≠ 0 ∧ r = .returned (.tuple #[.agg #[.int .u64 (S : Int), .slice B L.length d], (.agg #[.int .u64 (P : Int), .int .i64 (M : Int), .int .u64 (F : Int)]), .agg (sptC ⟨0, 0, getP 0⟩), .int .i64 (D.1 : Int)]) ∧ Mem w' S B L d))
set_option maxHeartbeats 16000000 in
theorem rdown_c {S P M F n t a k : Nat} {B : Option Addr} {L : List (Nat × Nat)} {d : Nat} (hfit : Fit S P M F n t L) (hpk : PoolK S P M) (hF : F < 2 ^ M) (hfew : L.length ≤ 35900) (htab : (tabs L n t).length ≤ 60) (hn : n ≤ 2) (hk : k ≤ n) (ha : a < 18446744073709551616) (w : World) (hM : Mem w S B L d) :
    Calls Tryd.prog 11 #[.agg #[.int .u64 (S : Int), .slice B L.length d], (.agg #[.int .u64 (P : Int), .int .i64 (M : Int), .int .u64 (F : Int)]), .int .u64 (t : Int), .int .i64 (n : Int), .int .u64 (a : Int), .int .i64 (k : Int)] w (DnT S P M a k L F (dnS P a k n L F t) w) := by
  have hp1 := hpk.p
  have hp2 := hpk.m
  have hSle := hM.ok.le
  have hD0 := Lib.hid (DnAt.start hfit hF)
  have hMo := fun W (e : Ext w W) => hM.ext e
  have hMt := hM.out (w.heap.size + 1 + 1 + 1 + 1 + 1 + 1 + 1)
  have h1 : Blk (((((((w.alloc (.cells #[.int .u64 (S : Int), .slice B L.length d] 25)).alloc (.cells #[.int .u64 (P : Int), .int .i64 (M : Int), .int .u64 (F : Int)] 27)).alloc (.cells #[.int .u64 0, .slice none 0 0] 25)).alloc (.cells #[.int .u64 0, .int .i64 0, .int .u64 0] 27)).alloc (.cells #[.int .u64 0, .int .i64 0, .bool false, .bool false, .bool false, .bool false, .bool false, .bool false, .bool false, .bool false, .int .u64 0, .int .u64 0, .int .u64 0] 34)).alloc (.cells #[.int .u64 (S : Int), .slice B L.length d] 25)).alloc (.cells #[.int .u64 (P : Int), .int .i64 (M : Int), .int .u64 (F : Int)] 27)) w.heap.size 25 #[.int .u64 (S : Int), .slice B L.length d] := ((((((Blk.new w _ _).alloc _).alloc _).alloc _).alloc _).alloc _).alloc _
  have h2 : Blk (((((((w.alloc (.cells #[.int .u64 (S : Int), .slice B L.length d] 25)).alloc (.cells #[.int .u64 (P : Int), .int .i64 (M : Int), .int .u64 (F : Int)] 27)).alloc (.cells #[.int .u64 0, .slice none 0 0] 25)).alloc (.cells #[.int .u64 0, .int .i64 0, .int .u64 0] 27)).alloc (.cells #[.int .u64 0, .int .i64 0, .bool false, .bool false, .bool false, .bool false, .bool false, .bool false, .bool false, .bool false, .int .u64 0, .int .u64 0, .int .u64 0] 34)).alloc (.cells #[.int .u64 (S : Int), .slice B L.length d] 25)).alloc (.cells #[.int .u64 (P : Int), .int .i64 (M : Int), .int .u64 (F : Int)] 27)) (w.heap.size + 1) 27 #[.int .u64 (P : Int), .int .i64 (M : Int), .int .u64 (F : Int)] := (((((blk_at (by simp)).alloc _).alloc _).alloc _).alloc _).alloc _
  have k3 : Blk (((((((w.alloc (.cells #[.int .u64 (S : Int), .slice B L.length d] 25)).alloc (.cells #[.int .u64 (P : Int), .int .i64 (M : Int), .int .u64 (F : Int)] 27)).alloc (.cells #[.int .u64 0, .slice none 0 0] 25)).alloc (.cells #[.int .u64 0, .int .i64 0, .int .u64 0] 27)).alloc (.cells #[.int .u64 0, .int .i64 0, .bool false, .bool false, .bool false, .bool false, .bool false, .bool false, .bool false, .bool false, .int .u64 0, .int .u64 0, .int .u64 0] 34)).alloc (.cells #[.int .u64 (S : Int), .slice B L.length d] 25)).alloc (.cells #[.int .u64 (P : Int), .int .i64 (M : Int), .int .u64 (F : Int)] 27)) (w.heap.size + 1 + 1) 25 #[.int .u64 0, .slice none 0 0] := ((((blk_at (by simp)).alloc _).alloc _).alloc _).alloc _
  have k4 : Blk (((((((w.alloc (.cells #[.int .u64 (S : Int), .slice B L.length d] 25)).alloc (.cells #[.int .u64 (P : Int), .int .i64 (M : Int), .int .u64 (F : Int)] 27)).alloc (.cells #[.int .u64 0, .slice none 0 0] 25)).alloc (.cells #[.int .u64 0, .int .i64 0, .int .u64 0] 27)).alloc (.cells #[.int .u64 0, .int .i64 0, .bool false, .bool false, .bool false, .bool false, .bool false, .bool false, .bool false, .bool false, .int .u64 0, .int .u64 0, .int .u64 0] 34)).alloc (.cells #[.int .u64 (S : Int), .slice B L.length d] 25)).alloc (.cells #[.int .u64 (P : Int), .int .i64 (M : Int), .int .u64 (F : Int)] 27)) (w.heap.size + 1 + 1 + 1) 27 #[.int .u64 0, .int .i64 0, .int .u64 0] := (((blk_at (by simp)).alloc _).alloc _).alloc _
  have k5 : Blk (((((((w.alloc (.cells #[.int .u64 (S : Int), .slice B L.length d] 25)).alloc (.cells #[.int .u64 (P : Int), .int .i64 (M : Int), .int .u64 (F : Int)] 27)).alloc (.cells #[.int .u64 0, .slice none 0 0] 25)).alloc (.cells #[.int .u64 0, .int .i64 0, .int .u64 0] 27)).alloc (.cells #[.int .u64 0, .int .i64 0, .bool false, .bool false, .bool false, .bool false, .bool false, .bool false, .bool false, .bool false, .int .u64 0, .int .u64 0, .int .u64 0] 34)).alloc (.cells #[.int .u64 (S : Int), .slice B L.length d] 25)).alloc (.cells #[.int .u64 (P : Int), .int .i64 (M : Int), .int .u64 (F : Int)] 27)) (w.heap.size + 1 + 1 + 1 + 1) 34 #[.int .u64 0, .int .i64 0, .bool false, .bool false, .bool false, .bool false, .bool false, .bool false, .bool false, .bool false, .int .u64 0, .int .u64 0, .int .u64 0] := ((blk_at (by simp)).alloc _).alloc _
  have h6 : Blk (((((((w.alloc (.cells #[.int .u64 (S : Int), .slice B L.length d] 25)).alloc (.cells #[.int .u64 (P : Int), .int .i64 (M : Int), .int .u64 (F : Int)] 27)).alloc (.cells #[.int .u64 0, .slice none 0 0] 25)).alloc (.cells #[.int .u64 0, .int .i64 0, .int .u64 0] 27)).alloc (.cells #[.int .u64 0, .int .i64 0, .bool false, .bool false, .bool false, .bool false, .bool false, .bool false, .bool false, .bool false, .int .u64 0, .int .u64 0, .int .u64 0] 34)).alloc (.cells #[.int .u64 (S : Int), .slice B L.length d] 25)).alloc (.cells #[.int .u64 (P : Int), .int .i64 (M : Int), .int .u64 (F : Int)] 27)) (w.heap.size + 1 + 1 + 1 + 1 + 1) 25 #[.int .u64 (S : Int), .slice B L.length d] := (blk_at (by simp)).alloc _
  have h7 : Blk (((((((w.alloc (.cells #[.int .u64 (S : Int), .slice B L.length d] 25)).alloc (.cells #[.int .u64 (P : Int), .int .i64 (M : Int), .int .u64 (F : Int)] 27)).alloc (.cells #[.int .u64 0, .slice none 0 0] 25)).alloc (.cells #[.int .u64 0, .int .i64 0, .int .u64 0] 27)).alloc (.cells #[.int .u64 0, .int .i64 0, .bool false, .bool false, .bool false, .bool false, .bool false, .bool false, .bool false, .bool false, .int .u64 0, .int .u64 0, .int .u64 0] 34)).alloc (.cells #[.int .u64 (S : Int), .slice B L.length d] 25)).alloc (.cells #[.int .u64 (P : Int), .int .i64 (M : Int), .int .u64 (F : Int)] 27)) (w.heap.size + 1 + 1 + 1 + 1 + 1 + 1) 27 #[.int .u64 (P : Int), .int .i64 (M : Int), .int .u64 (F : Int)] := blk_at (by simp)
  have HE := Lib.hid (show Ext w (((((((w.alloc (.cells #[.int .u64 (S : Int), .slice B L.length d] 25)).alloc (.cells #[.int .u64 (P : Int), .int .i64 (M : Int), .int .u64 (F : Int)] 27)).alloc (.cells #[.int .u64 0, .slice none 0 0] 25)).alloc (.cells #[.int .u64 0, .int .i64 0, .int .u64 0] 27)).alloc (.cells #[.int .u64 0, .int .i64 0, .bool false, .bool false, .bool false, .bool false, .bool false, .bool false, .bool false, .bool false, .int .u64 0, .int .u64 0, .int .u64 0] 34)).alloc (.cells #[.int .u64 (S : Int), .slice B L.length d] 25)).alloc (.cells #[.int .u64 (P : Int), .int .i64 (M : Int), .int .u64 (F : Int)] 27)) from (((((((Ext.refl w).alloc _).alloc _).alloc _).alloc _).alloc _).alloc _).alloc _)
  have r0 := hM.ext HE.out
  go_enter Tryd.func11, Tryd.ntmps11
  go_wp2_with fail
  generalize ((((((w.alloc (.cells #[.int .u64 (S : Int), .slice B L.length d] 25)).alloc (.cells #[.int .u64 (P : Int), .int .i64 (M : Int), .int .u64 (F : Int)] 27)).alloc (.cells #[.int .u64 0, .slice none 0 0] 25)).alloc (.cells #[.int .u64 0, .int .i64 0, .int .u64 0] 27)).alloc (.cells #[.int .u64 0, .int .i64 0, .bool false, .bool false, .bool false, .bool false, .bool false, .bool false, .bool false, .bool false, .int .u64 0, .int .u64 0, .int .u64 0] 34)).alloc (.cells #[.int .u64 (S : Int), .slice B L.length d] 25)).alloc (.cells #[.int .u64 (P : Int), .int .i64 (M : Int), .int .u64 (F : Int)] 27) = W1 at *
  clear hM
  obtain ⟨D, hD⟩ : ∃ D, dnS P a k n L F t = D := ⟨_, rfl⟩
  have HD0 := Lib.hid hD
  rw [hD]
  go_loopw [18, 19] (fun u l wr => ∃ (lk uk G : Nat) (K : List (Nat × Nat)) (B1 : Option Addr) (d1 : Nat), k ≤ lk ∧ lk ≤ n ∧ u = .int .u64 uk ∧ l = .int .i64 lk ∧ Hid (dnS P a k lk K G uk = D) ∧ Hid (DnAt S P M n t L K G lk uk) ∧ Blk wr w.heap.size 25 #[.int .u64 (S : Int), .slice B L.length d] ∧ Blk wr (w.heap.size + 1) 27 #[.int .u64 (P : Int), .int .i64 (M : Int), .int .u64 (F : Int)] ∧
      Blk wr (w.heap.size + 1 + 1) 25 #[.int .u64 0, .slice none 0 0] ∧ Blk wr (w.heap.size + 1 + 1 + 1) 27 #[.int .u64 0, .int .i64 0, .int .u64 0] ∧ Blk wr (w.heap.size + 1 + 1 + 1 + 1) 34 #[.int .u64 0, .int .i64 0, .bool false, .bool false, .bool false, .bool false, .bool false, .bool false, .bool false, .bool false, .int .u64 0, .int .u64 0, .int .u64 0] ∧
      Blk wr (w.heap.size + 1 + 1 + 1 + 1 + 1) 25 #[.int .u64 (S : Int), .slice B1 K.length d1] ∧ Blk wr (w.heap.size + 1 + 1 + 1 + 1 + 1 + 1) 27 #[.int .u64 (P : Int), .int .i64 (M : Int), .int .u64 (G : Int)] ∧ Mem wr S B1 K d1 ∧ Out w.heap.size (w.heap.size + 1 + 1 + 1 + 1 + 1 + 1 + 1) B1 K.length ∧ Ext w wr) (fun _ l _ => (intOf l).toNat)
  case atStart => exact ⟨n, t, F, L, B, d, hk, Nat.le_refl _, rfl, rfl, Lib.hid hD, hD0, h1, h2, k3, k4, k5, h6, h7, r0, hMt, HE.out⟩
  case round =>
    clear h1 h2 k3 k4 k5 h6 h7 r0 HE hD0 hD hfit hF
    obtain ⟨lk, uk, G, K, B1, d1, hkl, hln, rfl, rfl, hD, hA, h1, h2, k3, k4, k5, h6, h7, r0, hO1, hE⟩ := hrel
    have HE := Lib.hid hE
    clear hE
    have l7 := h7.lt
    have hOw := fun hi => r0.out hi
    have hKl : K.length ≤ 35902 := by have := hA.out.len; omega
    have huk : uk < 268435456 := by have := hA.out.fit.tree.lt _ hA.out.at_; simp only at this; omega
    by_cases hlt : k < lk
    case neg =>
      obtain rfl : k = lk := by omega
      have hz : Hid (D = (0, K, G, uk)) := Lib.hid (by rw [← hD.out]; exact dn_end P a k K G uk)
      have hz2 : Hid (dnS P a k n L F t = (0, K, G, uk)) := Lib.hid (by rw [HD0.out]; exact hz.out)
      have cix := fun W => rindex5_c (a : Int) (k : Int) (by omega) (by omega) (by omega) (by omega) W
      rw [idx_ix] at cix
      have hi := ixN_lt a k
      have cat := fun W (m : Mem W S B1 K d1) => rat19_c m (t := uk) (i := ixN a k) (by omega) hi
      obtain ⟨ix, hix⟩ : ∃ ix, ixN a k = ix := ⟨_, rfl⟩
      rw [hix] at cix cat hi
      obtain ⟨p, hp⟩ : ∃ p, tE K uk ix = p := ⟨_, rfl⟩
      rw [hp] at cat
      have hbd := spt_build ⟨uk, (k : Int), p⟩
      have HSP : Hid (sptC ⟨uk, (k : Int), p⟩ = sptC ⟨uk, (k : Int), tE K uk (ixN a k)⟩) := Lib.hid (by rw [hix, hp])
      simp only at hbd
      obtain ⟨SP, hSP⟩ : ∃ SP : Spt, (⟨uk, (k : Int), p⟩ : Spt) = SP := ⟨_, rfl⟩
      rw [hSP] at hbd HSP
      clear hD hA hix hp hSP hlt
      go_wp2_with fail
      have hE := (Ext.refl wr).drew
      (try replace hz := hz.ext hE); (try replace h1 := h1.ext hE); (try replace h2 := h2.ext hE); (try replace h6 := h6.ext hE); (try replace h7 := h7.ext hE); (try replace h8 := h8.ext hE); (try replace h9 := h9.ext hE); (try replace k1 := k1.ext hE); (try replace k3 := k3.ext hE); (try replace k4 := k4.ext hE); (try replace k5 := k5.ext hE); (try replace hM := hM.ext hE); (try replace HE := Lib.hid (HE.out.trans hE)); (try replace r0 := r0.ext hE); (try replace r1 := r1.ext hE); (try replace r2 := r2.ext hE); (try replace r3 := r3.ext hE); (try replace r4 := r4.ext hE); (try replace r5 := r5.ext hE); (try replace r6 := r6.ext hE)
      clear hE
      refine wp_region_seq [(0, false), (1, false), (2, false), (3, false), (4, false), (5, false), (6, false), (7, false), (8, true), (9, true), (10, false), (11, true), (12, true), (13, true), (14, false)] (Gap (w.heap.size + 1 + 1) (w.heap.size + 1 + 1 + 1 + 1 + 1)) (by kernel_rfl) (by kernel_rfl) (Gap.refl _ _) (fun _ _ _ => Gap.trans) ?_; simp only [List.map, nth_z, nth_s]
      generalize wr.drew = w6 at *
      refine seq_load rfl rfl (fun x hx => Gap.blk hx (h6) (by omega)) rfl Tryd.underlying25 (by kernel_rfl) (by rfl) ?_; intro K hK; simp only [Act.put, List.setIfInBounds_toArray, List.set_cons_zero, List.set_cons_succ]; refine hK _ ?_; clear hK K
      refine seq_load rfl rfl (fun x hx => Gap.blk hx (h7) (by omega)) rfl Tryd.underlying27 (by kernel_rfl) (by rfl) ?_; intro K hK; simp only [Act.put, List.setIfInBounds_toArray, List.set_cons_zero, List.set_cons_succ]; refine hK _ ?_; clear hK K
      (repeat (first | (refine seq_skip (by rfl) ?_; intro K hK; simp only [Act.put, List.setIfInBounds_toArray, List.set_cons_zero, List.set_cons_succ]; refine hK _ ?_; clear hK K) | (refine seq_skipc (by rfl) ?_; intro K hK; simp only [Act.put, List.setIfInBounds_toArray, List.set_cons_zero, List.set_cons_succ]; refine hK _ ?_; clear hK K) | (refine seq_read (by rfl) (by rfl) ?_; intro K hK; go_big_quiet_op; first | go_big_quiet_on | (refine ⟨_, fun _ _ => rfl, ?_⟩; go_big_quiet_on))))
      refine seq_load rfl rfl (fun x hx => Gap.blk hx (h6) (by omega)) rfl Tryd.underlying25 (by kernel_rfl) (by rfl) ?_; intro K hK; simp only [Act.put, List.setIfInBounds_toArray, List.set_cons_zero, List.set_cons_succ]; refine hK _ ?_; clear hK K
      (repeat (first | (refine seq_skip (by rfl) ?_; intro K hK; simp only [Act.put, List.setIfInBounds_toArray, List.set_cons_zero, List.set_cons_succ]; refine hK _ ?_; clear hK K) | (refine seq_skipc (by rfl) ?_; intro K hK; simp only [Act.put, List.setIfInBounds_toArray, List.set_cons_zero, List.set_cons_succ]; refine hK _ ?_; clear hK K) | (refine seq_read (by rfl) (by rfl) ?_; intro K hK; go_big_quiet_op; first | go_big_quiet_on | (refine ⟨_, fun _ _ => rfl, ?_⟩; go_big_quiet_on))))
      refine seq_call (calls_ext (cix _)) rfl Tryd.func30 (by kernel_rfl) (by kernel_rfl) (by rfl) (by rfl) ?_; intro K hK; rintro e w' ⟨rfl, hE⟩; refine ⟨_, rfl, (Gap.ext hE), ?_⟩; simp only [Act.put, List.setIfInBounds_toArray, List.set_cons_zero, List.set_cons_succ]; refine hK _ _ ?_; clear hK K
      (try replace hz := hz.ext hE); (try replace h1 := h1.ext hE); (try replace h2 := h2.ext hE); (try replace h6 := h6.ext hE); (try replace h7 := h7.ext hE); (try replace h8 := h8.ext hE); (try replace h9 := h9.ext hE); (try replace k1 := k1.ext hE); (try replace k3 := k3.ext hE); (try replace k4 := k4.ext hE); (try replace k5 := k5.ext hE); (try replace hM := hM.ext hE); (try replace HE := Lib.hid (HE.out.trans hE)); (try replace r0 := r0.ext hE); (try replace r1 := r1.ext hE); (try replace r2 := r2.ext hE); (try replace r3 := r3.ext hE); (try replace r4 := r4.ext hE); (try replace r5 := r5.ext hE); (try replace r6 := r6.ext hE)
      clear hE
      refine seq_call (cat _ r0) rfl Tryd.func29 (by kernel_rfl) (by kernel_rfl) (by rfl) (by rfl) ?_; intro K hK; rintro e w' ⟨rfl, hE⟩; refine ⟨_, rfl, (Gap.ext hE), ?_⟩; simp only [Act.put, List.setIfInBounds_toArray, List.set_cons_zero, List.set_cons_succ]; refine hK _ _ ?_; clear hK K
      (try replace hz := hz.ext hE); (try replace h1 := h1.ext hE); (try replace h2 := h2.ext hE); (try replace h6 := h6.ext hE); (try replace h7 := h7.ext hE); (try replace h8 := h8.ext hE); (try replace h9 := h9.ext hE); (try replace k1 := k1.ext hE); (try replace k3 := k3.ext hE); (try replace k4 := k4.ext hE); (try replace k5 := k5.ext hE); (try replace hM := hM.ext hE); (try replace HE := Lib.hid (HE.out.trans hE)); (try replace r0 := r0.ext hE); (try replace r1 := r1.ext hE); (try replace r2 := r2.ext hE); (try replace r3 := r3.ext hE); (try replace r4 := r4.ext hE); (try replace r5 := r5.ext hE); (try replace r6 := r6.ext hE)
      clear hE
      refine seq_build_as rfl (hbd) (by rfl) ?_; intro K hK; simp only [Act.put, List.setIfInBounds_toArray, List.set_cons_zero, List.set_cons_succ]; refine hK _ ?_; clear hK K
      (repeat (first | (refine seq_skip (by rfl) ?_; intro K hK; simp only [Act.put, List.setIfInBounds_toArray, List.set_cons_zero, List.set_cons_succ]; refine hK _ ?_; clear hK K) | (refine seq_skipc (by rfl) ?_; intro K hK; simp only [Act.put, List.setIfInBounds_toArray, List.set_cons_zero, List.set_cons_succ]; refine hK _ ?_; clear hK K) | (refine seq_read (by rfl) (by rfl) ?_; intro K hK; go_big_quiet_op; first | go_big_quiet_on | (refine ⟨_, fun _ _ => rfl, ?_⟩; go_big_quiet_on))))
      refine seq_store_row rfl rfl rfl (k3) (by kernel_rfl) (by rfl) (by simp [Value.oneCell']) (by rfl) (Gap.row _ (by omega) (by omega) _) ?_; intro K hK; simp only [Act.put, List.setIfInBounds_toArray, List.set_cons_zero, List.set_cons_succ]; refine hK _ _ ?_; clear hK K
      replace k4 := k4.apart (show w.heap.size + 1 + 1 + 1 ≠ w.heap.size + 1 + 1 by omega) #[.int .u64 (S : Int), .slice B1 K.length d1]
      refine seq_store_row rfl rfl rfl (k4) (by kernel_rfl) (by rfl) (by simp [Value.oneCell']) (by rfl) (Gap.row _ (by omega) (by omega) _) ?_; intro K hK; simp only [Act.put, List.setIfInBounds_toArray, List.set_cons_zero, List.set_cons_succ]; refine hK _ _ ?_; clear hK K
      replace k5 := (k5.apart (show w.heap.size + 1 + 1 + 1 + 1 ≠ w.heap.size + 1 + 1 by omega) #[.int .u64 (S : Int), .slice B1 K.length d1]).apart (show w.heap.size + 1 + 1 + 1 + 1 ≠ w.heap.size + 1 + 1 + 1 by omega) #[.int .u64 (P : Int), .int .i64 (M : Int), .int .u64 (G : Int)]
      refine seq_store_row rfl rfl rfl (k5) (spt_info _) (by simp [sptC_size]) (sptC_one _) (by rfl) (Gap.row _ (by omega) (by omega) _) ?_; intro K hK; simp only [Act.put, List.setIfInBounds_toArray, List.set_cons_zero, List.set_cons_succ]; refine hK _ _ ?_; clear hK K
      (repeat (first | (refine seq_skip (by rfl) ?_; intro K hK; simp only [Act.put, List.setIfInBounds_toArray, List.set_cons_zero, List.set_cons_succ]; refine hK _ ?_; clear hK K) | (refine seq_skipc (by rfl) ?_; intro K hK; simp only [Act.put, List.setIfInBounds_toArray, List.set_cons_zero, List.set_cons_succ]; refine hK _ ?_; clear hK K) | (refine seq_read (by rfl) (by rfl) ?_; intro K hK; go_big_quiet_op; first | go_big_quiet_on | (refine ⟨_, fun _ _ => rfl, ?_⟩; go_big_quiet_on))))
      refine seq_done ?_
      go_wp2
      (try simp only [Exit.inBlock, Exit.then])
      (try rw [Exit.noGoto_ret])
      refine bodyPost_ret (results_ccct rfl _ _ rfl rfl rfl (((k3.row #[.int .u64 (S : Int), .slice B1 K.length d1]).apart (by omega) #[.int .u64 (P : Int), .int .i64 (M : Int), .int .u64 (G : Int)]).apart (by omega) (sptC SP)) ((k4.row #[.int .u64 (P : Int), .int .i64 (M : Int), .int .u64 (G : Int)]).apart (by omega) (sptC SP)) (k5.row (sptC SP)) Tryd.underlying25 rfl (by kernel_rfl) Tryd.underlying27 rfl (by kernel_rfl) Tryd.underlying34 rfl (spt_info _)) rfl ?_
      have hE2 := ((HE.out.row (show w.heap.size ≤ w.heap.size + 1 + 1 by omega) #[.int .u64 (S : Int), .slice B1 K.length d1]).row (show w.heap.size ≤ w.heap.size + 1 + 1 + 1 by omega) #[.int .u64 (P : Int), .int .i64 (M : Int), .int .u64 (G : Int)]).row (show w.heap.size ≤ w.heap.size + 1 + 1 + 1 + 1 by omega) ((sptC SP))
      have rf := ((r0.row' hO1 (show w.heap.size ≤ w.heap.size + 1 + 1 by omega) (by omega) #[.int .u64 (S : Int), .slice B1 K.length d1]).row' hO1 (show w.heap.size ≤ w.heap.size + 1 + 1 + 1 by omega) (by omega) #[.int .u64 (P : Int), .int .i64 (M : Int), .int .u64 (G : Int)]).row' hO1 (show w.heap.size ≤ w.heap.size + 1 + 1 + 1 + 1 by omega) (by omega) ((sptC SP))
      first | exact ⟨B1, d1, hE2, .inl ⟨by rw [hz2.out], by rw [hz2.out, HSP.out]; rfl, by rw [hz2.out]; exact rf⟩⟩ | exact ⟨B1, d1, hE2, .inl ⟨by rw [hz.out], by rw [hz.out, HSP.out]; rfl, by rw [hz.out]; exact rf⟩⟩
    obtain ⟨l, rfl⟩ : ∃ l, lk = l + 1 := ⟨lk - 1, by omega⟩
    have hl2 : l + 1 ≤ 2 := by omega
    have cix := fun W => rindex5_c (a : Int) ((l + 1 : Nat) : Int) (by omega) (by omega) (by omega) (by omega) W
    rw [idx_ix] at cix
    have hi := ixN_lt a (l + 1)
    have cat := fun W (m : Mem W S B1 K d1) => rat19_c m (t := uk) (i := ixN a (l + 1)) (by omega) hi
    have hx1 := fun h => dn_over (P := P) (K := K) (G := G) (a := a) (k := k) (l := l) (u := uk) (by omega) h
    have hx2 := fun h hv => dn_lack (P := P) (K := K) (a := a) (k := k) (l := l) (u := uk) (by omega) h hv
    have hx3 := fun h hv => dn_go (a := a) (k := k) (by omega) h hv hA.out
    have hx4 := fun h hv h0 => dn_fresh (a := a) (k := k) hpk (by omega) hn h hv h0 htab hA.out
    have hbits := hA.out.bits
    have hA2 := hA
    clear hA
    obtain ⟨ix, hix⟩ : ∃ ix, ixN a (l + 1) = ix := ⟨_, rfl⟩
    rw [hix] at cix cat hi hx1 hx2 hx3 hx4
    obtain ⟨p, hp⟩ : ∃ p, tE K uk ix = p := ⟨_, rfl⟩
    rw [hp] at cat hx1 hx2 hx3 hx4
    have clf := fun W => rleaf_c p W
    go_wp2_with fail
    refine wp_region_float 20 34 (#[.int .u64 0, .int .i64 0, .bool false, .bool false, .bool false, .bool false, .bool false, .bool false, .bool false, .bool false, .int .u64 0, .int .u64 0, .int .u64 0]) 9 [([(0, false), (1, false), (2, false), (3, false), (4, false), (5, false)], 6), ([], 7)] [(8, false)] [(10, true)] (by kernel_rfl) (by kernel_rfl) (fun _ _ => by simp [go_sem, execOp, Act.eval, nth]) (fun _ => rfl) rfl ?_; intro Bd W hE hs0 hwB; have hwE := HE.out.size; (try replace hz := hz.ext hE); (try replace h1 := h1.ext hE); (try replace h2 := h2.ext hE); (try replace h6 := h6.ext hE); (try replace h7 := h7.ext hE); (try replace h8 := h8.ext hE); (try replace h9 := h9.ext hE); (try replace k1 := k1.ext hE); (try replace k3 := k3.ext hE); (try replace k4 := k4.ext hE); (try replace k5 := k5.ext hE); (try replace hM := hM.ext hE); (try replace HE := Lib.hid (HE.out.trans hE)); (try replace r0 := r0.ext hE); (try replace r1 := r1.ext hE); (try replace r2 := r2.ext hE); (try replace r3 := r3.ext hE); (try replace r4 := r4.ext hE); (try replace r5 := r5.ext hE); (try replace r6 := r6.ext hE); clear hE; simp only [floatB, List.map, nth_z, nth_s]
    intro x W hE; (try simp only [Act.put, List.setIfInBounds_toArray, List.set_cons_zero, List.set_cons_succ]); (try replace hz := hz.ext hE); (try replace h1 := h1.ext hE); (try replace h2 := h2.ext hE); (try replace h6 := h6.ext hE); (try replace h7 := h7.ext hE); (try replace h8 := h8.ext hE); (try replace h9 := h9.ext hE); (try replace k1 := k1.ext hE); (try replace k3 := k3.ext hE); (try replace k4 := k4.ext hE); (try replace k5 := k5.ext hE); (try replace hM := hM.ext hE); (try replace HE := Lib.hid (HE.out.trans hE)); (try replace r0 := r0.ext hE); (try replace r1 := r1.ext hE); (try replace r2 := r2.ext hE); (try replace r3 := r3.ext hE); (try replace r4 := r4.ext hE); (try replace r5 := r5.ext hE); (try replace r6 := r6.ext hE); replace hs0 := Nat.le_trans hs0 hE.size; clear hE
    (repeat (first | (refine seq_skip (by rfl) ?_; intro K hK; simp only [Act.put, List.setIfInBounds_toArray, List.set_cons_zero, List.set_cons_succ]; refine hK _ ?_; clear hK K) | (refine seq_skipc (by rfl) ?_; intro K hK; simp only [Act.put, List.setIfInBounds_toArray, List.set_cons_zero, List.set_cons_succ]; refine hK _ ?_; clear hK K) | (refine seq_read (by rfl) (by rfl) ?_; intro K hK; go_big_quiet_op; first | go_big_quiet_on | (refine ⟨_, fun _ _ => rfl, ?_⟩; go_big_quiet_on))))
    refine seq_load rfl rfl (fun x hx => Blk.lower (h6) hx (by omega)) rfl Tryd.underlying25 (by kernel_rfl) (by rfl) ?_; intro K hK; simp only [Act.put, List.setIfInBounds_toArray, List.set_cons_zero, List.set_cons_succ]; refine hK _ ?_; clear hK K
    (repeat (first | (refine seq_skip (by rfl) ?_; intro K hK; simp only [Act.put, List.setIfInBounds_toArray, List.set_cons_zero, List.set_cons_succ]; refine hK _ ?_; clear hK K) | (refine seq_skipc (by rfl) ?_; intro K hK; simp only [Act.put, List.setIfInBounds_toArray, List.set_cons_zero, List.set_cons_succ]; refine hK _ ?_; clear hK K) | (refine seq_read (by rfl) (by rfl) ?_; intro K hK; go_big_quiet_op; first | go_big_quiet_on | (refine ⟨_, fun _ _ => rfl, ?_⟩; go_big_quiet_on))))
    refine seq_done ⟨rfl, rfl, ?_⟩; intro x W hE; (try simp only [Act.put, List.setIfInBounds_toArray, List.set_cons_zero, List.set_cons_succ]); (try replace hz := hz.ext hE); (try replace h1 := h1.ext hE); (try replace h2 := h2.ext hE); (try replace h6 := h6.ext hE); (try replace h7 := h7.ext hE); (try replace h8 := h8.ext hE); (try replace h9 := h9.ext hE); (try replace k1 := k1.ext hE); (try replace k3 := k3.ext hE); (try replace k4 := k4.ext hE); (try replace k5 := k5.ext hE); (try replace hM := hM.ext hE); (try replace HE := Lib.hid (HE.out.trans hE)); (try replace r0 := r0.ext hE); (try replace r1 := r1.ext hE); (try replace r2 := r2.ext hE); (try replace r3 := r3.ext hE); (try replace r4 := r4.ext hE); (try replace r5 := r5.ext hE); (try replace r6 := r6.ext hE); replace hs0 := Nat.le_trans hs0 hE.size; clear hE
    refine seq_call (calls_ext (cix _)) rfl Tryd.func30 (by kernel_rfl) (by kernel_rfl) (by rfl) (by rfl) ?_; intro K hK; rintro e w' ⟨rfl, hE⟩; refine ⟨_, rfl, (Below.mono hE hs0), ?_⟩; simp only [Act.put, List.setIfInBounds_toArray, List.set_cons_zero, List.set_cons_succ]; refine hK _ _ ?_; clear hK K; (try replace hz := hz.ext hE); (try replace h1 := h1.ext hE); (try replace h2 := h2.ext hE); (try replace h6 := h6.ext hE); (try replace h7 := h7.ext hE); (try replace h8 := h8.ext hE); (try replace h9 := h9.ext hE); (try replace k1 := k1.ext hE); (try replace k3 := k3.ext hE); (try replace k4 := k4.ext hE); (try replace k5 := k5.ext hE); (try replace hM := hM.ext hE); (try replace HE := Lib.hid (HE.out.trans hE)); (try replace r0 := r0.ext hE); (try replace r1 := r1.ext hE); (try replace r2 := r2.ext hE); (try replace r3 := r3.ext hE); (try replace r4 := r4.ext hE); (try replace r5 := r5.ext hE); (try replace r6 := r6.ext hE); replace hs0 := Nat.le_trans hs0 hE.size; refine seq_done ⟨kept_ext hE, rfl, ?_⟩; clear hE
    intro x W hE; (try simp only [Act.put, List.setIfInBounds_toArray, List.set_cons_zero, List.set_cons_succ]); (try replace hz := hz.ext hE); (try replace h1 := h1.ext hE); (try replace h2 := h2.ext hE); (try replace h6 := h6.ext hE); (try replace h7 := h7.ext hE); (try replace h8 := h8.ext hE); (try replace h9 := h9.ext hE); (try replace k1 := k1.ext hE); (try replace k3 := k3.ext hE); (try replace k4 := k4.ext hE); (try replace k5 := k5.ext hE); (try replace hM := hM.ext hE); (try replace HE := Lib.hid (HE.out.trans hE)); (try replace r0 := r0.ext hE); (try replace r1 := r1.ext hE); (try replace r2 := r2.ext hE); (try replace r3 := r3.ext hE); (try replace r4 := r4.ext hE); (try replace r5 := r5.ext hE); (try replace r6 := r6.ext hE); replace hs0 := Nat.le_trans hs0 hE.size; clear hE
    refine seq_done ⟨rfl, rfl, ?_⟩; intro x W hE; (try simp only [Act.put, List.setIfInBounds_toArray, List.set_cons_zero, List.set_cons_succ]); (try replace hz := hz.ext hE); (try replace h1 := h1.ext hE); (try replace h2 := h2.ext hE); (try replace h6 := h6.ext hE); (try replace h7 := h7.ext hE); (try replace h8 := h8.ext hE); (try replace h9 := h9.ext hE); (try replace k1 := k1.ext hE); (try replace k3 := k3.ext hE); (try replace k4 := k4.ext hE); (try replace k5 := k5.ext hE); (try replace hM := hM.ext hE); (try replace HE := Lib.hid (HE.out.trans hE)); (try replace r0 := r0.ext hE); (try replace r1 := r1.ext hE); (try replace r2 := r2.ext hE); (try replace r3 := r3.ext hE); (try replace r4 := r4.ext hE); (try replace r5 := r5.ext hE); (try replace r6 := r6.ext hE); replace hs0 := Nat.le_trans hs0 hE.size; clear hE
    refine seq_call (cat _ r0) rfl Tryd.func29 (by kernel_rfl) (by kernel_rfl) (by rfl) (by rfl) ?_; intro K hK; rintro e w' ⟨rfl, hE⟩; refine ⟨_, rfl, (Below.mono hE hs0), ?_⟩; simp only [Act.put, List.setIfInBounds_toArray, List.set_cons_zero, List.set_cons_succ]; refine hK _ _ ?_; clear hK K; (try replace hz := hz.ext hE); (try replace h1 := h1.ext hE); (try replace h2 := h2.ext hE); (try replace h6 := h6.ext hE); (try replace h7 := h7.ext hE); (try replace h8 := h8.ext hE); (try replace h9 := h9.ext hE); (try replace k1 := k1.ext hE); (try replace k3 := k3.ext hE); (try replace k4 := k4.ext hE); (try replace k5 := k5.ext hE); (try replace hM := hM.ext hE); (try replace HE := Lib.hid (HE.out.trans hE)); (try replace r0 := r0.ext hE); (try replace r1 := r1.ext hE); (try replace r2 := r2.ext hE); (try replace r3 := r3.ext hE); (try replace r4 := r4.ext hE); (try replace r5 := r5.ext hE); (try replace r6 := r6.ext hE); replace hs0 := Nat.le_trans hs0 hE.size; refine seq_done ⟨kept_ext hE, rfl, ?_⟩; clear hE
    intro x W hE; (try simp only [Act.put, List.setIfInBounds_toArray, List.set_cons_zero, List.set_cons_succ]); (try replace hz := hz.ext hE); (try replace h1 := h1.ext hE); (try replace h2 := h2.ext hE); (try replace h6 := h6.ext hE); (try replace h7 := h7.ext hE); (try replace h8 := h8.ext hE); (try replace h9 := h9.ext hE); (try replace k1 := k1.ext hE); (try replace k3 := k3.ext hE); (try replace k4 := k4.ext hE); (try replace k5 := k5.ext hE); (try replace hM := hM.ext hE); (try replace HE := Lib.hid (HE.out.trans hE)); (try replace r0 := r0.ext hE); (try replace r1 := r1.ext hE); (try replace r2 := r2.ext hE); (try replace r3 := r3.ext hE); (try replace r4 := r4.ext hE); (try replace r5 := r5.ext hE); (try replace r6 := r6.ext hE); replace hs0 := Nat.le_trans hs0 hE.size; clear hE
    refine seq_build_as rfl ((spt_build ⟨uk, ((l + 1 : Nat) : Int), p⟩)) (by rfl) ?_; intro K hK; simp only [Act.put, List.setIfInBounds_toArray, List.set_cons_zero, List.set_cons_succ]; refine hK _ ?_; clear hK K
    refine seq_done ⟨rfl, rfl, ?_⟩; intro gq W hE hn hgB hEg; (try simp only [Act.put, List.setIfInBounds_toArray, List.set_cons_zero, List.set_cons_succ]); (try replace hz := hz.ext hE); (try replace h1 := h1.ext hE); (try replace h2 := h2.ext hE); (try replace h6 := h6.ext hE); (try replace h7 := h7.ext hE); (try replace h8 := h8.ext hE); (try replace h9 := h9.ext hE); (try replace k1 := k1.ext hE); (try replace k3 := k3.ext hE); (try replace k4 := k4.ext hE); (try replace k5 := k5.ext hE); (try replace hM := hM.ext hE); (try replace HE := Lib.hid (HE.out.trans hE)); (try replace r0 := r0.ext hE); (try replace r1 := r1.ext hE); (try replace r2 := r2.ext hE); (try replace r3 := r3.ext hE); (try replace r4 := r4.ext hE); (try replace r5 := r5.ext hE); (try replace r6 := r6.ext hE); replace hs0 := Nat.le_trans hs0 hE.size; clear hE
    have hpt : (sptC (⟨uk, ((l + 1 : Nat) : Int), p⟩ : Spt)).extract 2 (2 + (ptC p).size) = ptC p := sptC_pt _
    have x2 : (sptC (⟨uk, ((l + 1 : Nat) : Int), p⟩ : Spt))[2]? = some (.bool p.v) := by simp only [sptC_eq, ptC_eq]; rfl
    have x11 : (sptC (⟨uk, ((l + 1 : Nat) : Int), p⟩ : Spt))[11]? = some (.int .u64 (p.pp : Int)) := by simp only [sptC_eq, ptC_eq]; rfl
    obtain ⟨SP, hSP⟩ : ∃ SP : Spt, (⟨uk, ((l + 1 : Nat) : Int), p⟩ : Spt) = SP := ⟨_, rfl⟩
    have HSP := Lib.hid hSP
    rw [hSP] at hpt x2 x11
    simp only [hSP]
    have rF := r0.row' (hOw (gq + 1)) (show wr.heap.size ≤ gq by omega) (by omega) (sptC SP)
    refine seq_store_row rfl rfl rfl (hn) (spt_info _) (by simp [sptC_size]) (sptC_one _) (by rfl) ((below_row (Below.refl _ _) hgB _)) ?_; intro K hK; simp only [Act.put, List.setIfInBounds_toArray, List.set_cons_zero, List.set_cons_succ]; refine hK _ _ ?_; clear hK K; (repeat (first | (refine seq_skip (by rfl) ?_; intro K hK; simp only [Act.put, List.setIfInBounds_toArray, List.set_cons_zero, List.set_cons_succ]; refine hK _ ?_; clear hK K) | (refine seq_skipc (by rfl) ?_; intro K hK; simp only [Act.put, List.setIfInBounds_toArray, List.set_cons_zero, List.set_cons_succ]; refine hK _ ?_; clear hK K) | (refine seq_read (by rfl) (by rfl) ?_; intro K hK; go_big_quiet_op; first | go_big_quiet_on | (refine ⟨_, fun _ _ => rfl, ?_⟩; go_big_quiet_on)))); refine seq_done ?_; (try replace hz := hz.apart (k := gq) (by omega) (sptC SP)); (try replace h1 := h1.apart (k := gq) (by omega) (sptC SP)); (try replace h2 := h2.apart (k := gq) (by omega) (sptC SP)); (try replace h6 := h6.apart (k := gq) (by omega) (sptC SP)); (try replace h7 := h7.apart (k := gq) (by omega) (sptC SP)); (try replace h8 := h8.apart (k := gq) (by omega) (sptC SP)); (try replace h9 := h9.apart (k := gq) (by omega) (sptC SP)); (try replace k1 := k1.apart (k := gq) (by omega) (sptC SP)); (try replace k3 := k3.apart (k := gq) (by omega) (sptC SP)); (try replace k4 := k4.apart (k := gq) (by omega) (sptC SP)); (try replace k5 := k5.apart (k := gq) (by omega) (sptC SP)); have h8 := hn.row (sptC SP); replace HE := Lib.hid (Ext.row HE.out (show _ ≤ gq by omega) (sptC SP)); generalize W.setRow gq (sptC SP) = WF at *; clear hn hEg
    clear hSP r0
    have r0 := rF
    clear rF
    cases hl : leafB p
    case true =>
      have hz : Hid (D = (6, K, G, uk)) := Lib.hid (by rw [← hD.out]; exact hx1 hl)
      rw [hl] at clf
      clear hx1 hx2 hx3 hx4 x2 x11 hp hix hl h6 h7 r0
      go_wp2_with (refine wpList_load_part (by rfl) 32 _ rfl rfl h8 (hpt) Tryd.underlying32 rfl (pt_info _) ?_)
      refine (clf _).mono ?_
      rintro e w6 ⟨rfl, hE⟩
      (try replace hz := hz.ext hE); (try replace h1 := h1.ext hE); (try replace h2 := h2.ext hE); (try replace h6 := h6.ext hE); (try replace h7 := h7.ext hE); (try replace h8 := h8.ext hE); (try replace h9 := h9.ext hE); (try replace k1 := k1.ext hE); (try replace k3 := k3.ext hE); (try replace k4 := k4.ext hE); (try replace k5 := k5.ext hE); (try replace hM := hM.ext hE); (try replace HE := Lib.hid (HE.out.trans hE)); (try replace r0 := r0.ext hE); (try replace r1 := r1.ext hE); (try replace r2 := r2.ext hE); (try replace r3 := r3.ext hE); (try replace r4 := r4.ext hE); (try replace r5 := r5.ext hE); (try replace r6 := r6.ext hE)
      clear hE clf h8
      go_wp2_with fail
      have hE := (Ext.refl w6).drew
      (try replace hz := hz.ext hE); (try replace h1 := h1.ext hE); (try replace h2 := h2.ext hE); (try replace h6 := h6.ext hE); (try replace h7 := h7.ext hE); (try replace h8 := h8.ext hE); (try replace h9 := h9.ext hE); (try replace k1 := k1.ext hE); (try replace k3 := k3.ext hE); (try replace k4 := k4.ext hE); (try replace k5 := k5.ext hE); (try replace hM := hM.ext hE); (try replace HE := Lib.hid (HE.out.trans hE)); (try replace r0 := r0.ext hE); (try replace r1 := r1.ext hE); (try replace r2 := r2.ext hE); (try replace r3 := r3.ext hE); (try replace r4 := r4.ext hE); (try replace r5 := r5.ext hE); (try replace r6 := r6.ext hE)
      clear hE
      refine wp_region_seq [(0, false), (1, false), (2, false), (3, true), (4, true), (5, true), (6, false)] (Gap (w.heap.size + 1 + 1) (w.heap.size + 1 + 1 + 1 + 1 + 1)) (by kernel_rfl) (by kernel_rfl) (Gap.refl _ _) (fun _ _ _ => Gap.trans) ?_; simp only [List.map, nth_z, nth_s]
      generalize w6.drew = w7 at *
      refine seq_load rfl rfl (fun x hx => Gap.blk hx (h1) (by omega)) rfl Tryd.underlying25 (by kernel_rfl) (by rfl) ?_; intro K hK; simp only [Act.put, List.setIfInBounds_toArray, List.set_cons_zero, List.set_cons_succ]; refine hK _ ?_; clear hK K
      refine seq_load rfl rfl (fun x hx => Gap.blk hx (h2) (by omega)) rfl Tryd.underlying27 (by kernel_rfl) (by rfl) ?_; intro K hK; simp only [Act.put, List.setIfInBounds_toArray, List.set_cons_zero, List.set_cons_succ]; refine hK _ ?_; clear hK K
      (repeat (first | (refine seq_skip (by rfl) ?_; intro K hK; simp only [Act.put, List.setIfInBounds_toArray, List.set_cons_zero, List.set_cons_succ]; refine hK _ ?_; clear hK K) | (refine seq_skipc (by rfl) ?_; intro K hK; simp only [Act.put, List.setIfInBounds_toArray, List.set_cons_zero, List.set_cons_succ]; refine hK _ ?_; clear hK K) | (refine seq_read (by rfl) (by rfl) ?_; intro K hK; go_big_quiet_op; first | go_big_quiet_on | (refine ⟨_, fun _ _ => rfl, ?_⟩; go_big_quiet_on))))
      refine seq_build_as rfl (zs_built) (by rfl) ?_; intro K hK; simp only [Act.put, List.setIfInBounds_toArray, List.set_cons_zero, List.set_cons_succ]; refine hK _ ?_; clear hK K
      (repeat (first | (refine seq_skip (by rfl) ?_; intro K hK; simp only [Act.put, List.setIfInBounds_toArray, List.set_cons_zero, List.set_cons_succ]; refine hK _ ?_; clear hK K) | (refine seq_skipc (by rfl) ?_; intro K hK; simp only [Act.put, List.setIfInBounds_toArray, List.set_cons_zero, List.set_cons_succ]; refine hK _ ?_; clear hK K) | (refine seq_read (by rfl) (by rfl) ?_; intro K hK; go_big_quiet_op; first | go_big_quiet_on | (refine ⟨_, fun _ _ => rfl, ?_⟩; go_big_quiet_on))))
      refine seq_store_row rfl rfl rfl (k3) (by kernel_rfl) (by rfl) (by simp [Value.oneCell']) (by rfl) (Gap.row _ (by omega) (by omega) _) ?_; intro K hK; simp only [Act.put, List.setIfInBounds_toArray, List.set_cons_zero, List.set_cons_succ]; refine hK _ _ ?_; clear hK K
      replace k4 := k4.apart (show w.heap.size + 1 + 1 + 1 ≠ w.heap.size + 1 + 1 by omega) #[.int .u64 (S : Int), .slice B L.length d]
      refine seq_store_row rfl rfl rfl (k4) (by kernel_rfl) (by rfl) (by simp [Value.oneCell']) (by rfl) (Gap.row _ (by omega) (by omega) _) ?_; intro K hK; simp only [Act.put, List.setIfInBounds_toArray, List.set_cons_zero, List.set_cons_succ]; refine hK _ _ ?_; clear hK K
      replace k5 := (k5.apart (show w.heap.size + 1 + 1 + 1 + 1 ≠ w.heap.size + 1 + 1 by omega) #[.int .u64 (S : Int), .slice B L.length d]).apart (show w.heap.size + 1 + 1 + 1 + 1 ≠ w.heap.size + 1 + 1 + 1 by omega) #[.int .u64 (P : Int), .int .i64 (M : Int), .int .u64 (F : Int)]
      refine seq_store_row rfl rfl rfl (k5) (spt_info _) (by simp [sptC_size]) (sptC_one _) (by rfl) (Gap.row _ (by omega) (by omega) _) ?_; intro K hK; simp only [Act.put, List.setIfInBounds_toArray, List.set_cons_zero, List.set_cons_succ]; refine hK _ _ ?_; clear hK K
      (repeat (first | (refine seq_skip (by rfl) ?_; intro K hK; simp only [Act.put, List.setIfInBounds_toArray, List.set_cons_zero, List.set_cons_succ]; refine hK _ ?_; clear hK K) | (refine seq_skipc (by rfl) ?_; intro K hK; simp only [Act.put, List.setIfInBounds_toArray, List.set_cons_zero, List.set_cons_succ]; refine hK _ ?_; clear hK K) | (refine seq_read (by rfl) (by rfl) ?_; intro K hK; go_big_quiet_op; first | go_big_quiet_on | (refine ⟨_, fun _ _ => rfl, ?_⟩; go_big_quiet_on))))
      refine seq_done ?_
      go_wp2
      (try simp only [Exit.inBlock, Exit.then])
      (try rw [Exit.noGoto_ret])
      refine bodyPost_ret (results_ccct rfl _ _ rfl rfl rfl (((k3.row #[.int .u64 (S : Int), .slice B L.length d]).apart (by omega) #[.int .u64 (P : Int), .int .i64 (M : Int), .int .u64 (F : Int)]).apart (by omega) (sptC ⟨0, 0, getP 0⟩)) ((k4.row #[.int .u64 (P : Int), .int .i64 (M : Int), .int .u64 (F : Int)]).apart (by omega) (sptC ⟨0, 0, getP 0⟩)) (k5.row (sptC ⟨0, 0, getP 0⟩)) Tryd.underlying25 rfl (by kernel_rfl) Tryd.underlying27 rfl (by kernel_rfl) Tryd.underlying34 rfl (spt_info _)) rfl ?_
      have hE2 := ((HE.out.row (show w.heap.size ≤ w.heap.size + 1 + 1 by omega) #[.int .u64 (S : Int), .slice B L.length d]).row (show w.heap.size ≤ w.heap.size + 1 + 1 + 1 by omega) #[.int .u64 (P : Int), .int .i64 (M : Int), .int .u64 (F : Int)]).row (show w.heap.size ≤ w.heap.size + 1 + 1 + 1 + 1 by omega) ((sptC ⟨0, 0, getP 0⟩))
      exact ⟨B, d, hE2, .inr ⟨by rw [hz.out]; simp, by rw [hz.out]; rfl, hMo _ hE2⟩⟩
    rw [hl] at clf
    have y2 := (h8.cell 2).trans x2
    cases hv : p.v
    case true =>
      obtain ⟨hq1, hq2⟩ := hx3 hl hv
      have Hq1 := Lib.hid hq1
      have Hq2 := Lib.hid hq2
      rw [hv] at x2
      clear hx1 hx2 hx3 hx4 hq1 hq2 y2
      go_wp2_with (refine wpList_load_part (by rfl) 32 _ rfl rfl h8 (hpt) Tryd.underlying32 rfl (pt_info _) ?_)
      refine (clf _).mono ?_
      rintro e w6 ⟨rfl, hE⟩
      (try replace hz := hz.ext hE); (try replace h1 := h1.ext hE); (try replace h2 := h2.ext hE); (try replace h6 := h6.ext hE); (try replace h7 := h7.ext hE); (try replace h8 := h8.ext hE); (try replace h9 := h9.ext hE); (try replace k1 := k1.ext hE); (try replace k3 := k3.ext hE); (try replace k4 := k4.ext hE); (try replace k5 := k5.ext hE); (try replace hM := hM.ext hE); (try replace HE := Lib.hid (HE.out.trans hE)); (try replace r0 := r0.ext hE); (try replace r1 := r1.ext hE); (try replace r2 := r2.ext hE); (try replace r3 := r3.ext hE); (try replace r4 := r4.ext hE); (try replace r5 := r5.ext hE); (try replace r6 := r6.ext hE)
      clear hE clf
      have y2 := (h8.cell 2).trans x2
      have y11 := (h8.cell 11).trans x11
      clear hp hix hl hv h8
      go_wp2
      go_roundw
      case rel => exact ⟨l, p.pp, G, K, B1, d1, by omega, by omega, rfl, by go_num, Lib.hid (by rw [← Hq1.out]; exact hD.out), Hq2, h1, h2, k3, k4, k5, h6, h7, r0, hO1, HE.out⟩
      case measure => simp [intOf]
    rw [hv] at x2
    clear y2
    by_cases h0 : G = 0
    case pos =>
      have hz : Hid (D = (8, K, G, uk)) := Lib.hid (by subst h0; rw [← hD.out]; exact hx2 hl hv)
      have cfr : ∀ W, Mem W S B1 K d1 → Calls Tryd.prog 31 #[.agg #[.int .u64 (S : Int), .slice B1 K.length d1], (.agg #[.int .u64 (P : Int), .int .i64 (M : Int), .int .u64 (G : Int)])] W (FrT S K P M 0 0 8 W) := fun W m => by subst h0; exact rfresh19_no hp2 W m
      clear hx1 hx2 hx3 hx4 hbits hA2 h0
      go_wp2_with (refine wpList_load_part (by rfl) 32 _ rfl rfl h8 (hpt) Tryd.underlying32 rfl (pt_info _) ?_)
      refine (clf _).mono ?_
      rintro e w6 ⟨rfl, hE⟩
      (try replace hz := hz.ext hE); (try replace h1 := h1.ext hE); (try replace h2 := h2.ext hE); (try replace h6 := h6.ext hE); (try replace h7 := h7.ext hE); (try replace h8 := h8.ext hE); (try replace h9 := h9.ext hE); (try replace k1 := k1.ext hE); (try replace k3 := k3.ext hE); (try replace k4 := k4.ext hE); (try replace k5 := k5.ext hE); (try replace hM := hM.ext hE); (try replace HE := Lib.hid (HE.out.trans hE)); (try replace r0 := r0.ext hE); (try replace r1 := r1.ext hE); (try replace r2 := r2.ext hE); (try replace r3 := r3.ext hE); (try replace r4 := r4.ext hE); (try replace r5 := r5.ext hE); (try replace r6 := r6.ext hE)
      clear hE clf
      have y2 := (h8.cell 2).trans x2
      clear hp hix hl hv h8
      go_wp2_with (first | (refine wpList_load_blk (by rfl) 25 _ rfl rfl h6 Tryd.underlying25 rfl (by kernel_rfl) ?_) | (refine wpList_load_blk (by rfl) 27 _ rfl rfl h7 Tryd.underlying27 rfl (by kernel_rfl) ?_))
      clear y2
      refine (cfr _ r0).mono ?_
      rintro e w7 ⟨B2, d2, rfl, hM2, hE⟩
      (try replace hz := hz.ext hE); (try replace h1 := h1.ext hE); (try replace h2 := h2.ext hE); (try replace h6 := h6.ext hE); (try replace h7 := h7.ext hE); (try replace h8 := h8.ext hE); (try replace h9 := h9.ext hE); (try replace k1 := k1.ext hE); (try replace k3 := k3.ext hE); (try replace k4 := k4.ext hE); (try replace k5 := k5.ext hE); (try replace hM := hM.ext hE); (try replace HE := Lib.hid (HE.out.trans hE)); (try replace r0 := r0.ext hE); (try replace r1 := r1.ext hE); (try replace r2 := r2.ext hE); (try replace r3 := r3.ext hE); (try replace r4 := r4.ext hE); (try replace r5 := r5.ext hE); (try replace r6 := r6.ext hE)
      clear hE cfr hM2 r0 h6 h7
      go_wp2_with fail
      have hE := (((Ext.refl w7).alloc (.cells #[.int .u64 (S : Int), .slice B2 K.length d2] 25)).alloc (.cells #[.int .u64 (P : Int), .int .i64 (M : Int), .int .u64 0] 27)).drew
      (try replace hz := hz.ext hE); (try replace h1 := h1.ext hE); (try replace h2 := h2.ext hE); (try replace h6 := h6.ext hE); (try replace h7 := h7.ext hE); (try replace h8 := h8.ext hE); (try replace h9 := h9.ext hE); (try replace k1 := k1.ext hE); (try replace k3 := k3.ext hE); (try replace k4 := k4.ext hE); (try replace k5 := k5.ext hE); (try replace hM := hM.ext hE); (try replace HE := Lib.hid (HE.out.trans hE)); (try replace r0 := r0.ext hE); (try replace r1 := r1.ext hE); (try replace r2 := r2.ext hE); (try replace r3 := r3.ext hE); (try replace r4 := r4.ext hE); (try replace r5 := r5.ext hE); (try replace r6 := r6.ext hE)
      clear hE
      refine wp_region_seq [(0, false), (1, false), (2, false), (3, false), (4, true), (5, true), (6, true), (7, false)] (Gap (w.heap.size + 1 + 1) (w.heap.size + 1 + 1 + 1 + 1 + 1)) (by kernel_rfl) (by kernel_rfl) (Gap.refl _ _) (fun _ _ _ => Gap.trans) ?_; simp only [List.map, nth_z, nth_s]
      generalize ((w7.alloc (.cells #[.int .u64 (S : Int), .slice B2 K.length d2] 25)).alloc (.cells #[.int .u64 (P : Int), .int .i64 (M : Int), .int .u64 0] 27)).drew = w8 at *
      refine seq_load rfl rfl (fun x hx => Gap.blk hx (h1) (by omega)) rfl Tryd.underlying25 (by kernel_rfl) (by rfl) ?_; intro K hK; simp only [Act.put, List.setIfInBounds_toArray, List.set_cons_zero, List.set_cons_succ]; refine hK _ ?_; clear hK K
      refine seq_load rfl rfl (fun x hx => Gap.blk hx (h2) (by omega)) rfl Tryd.underlying27 (by kernel_rfl) (by rfl) ?_; intro K hK; simp only [Act.put, List.setIfInBounds_toArray, List.set_cons_zero, List.set_cons_succ]; refine hK _ ?_; clear hK K
      (repeat (first | (refine seq_skip (by rfl) ?_; intro K hK; simp only [Act.put, List.setIfInBounds_toArray, List.set_cons_zero, List.set_cons_succ]; refine hK _ ?_; clear hK K) | (refine seq_skipc (by rfl) ?_; intro K hK; simp only [Act.put, List.setIfInBounds_toArray, List.set_cons_zero, List.set_cons_succ]; refine hK _ ?_; clear hK K) | (refine seq_read (by rfl) (by rfl) ?_; intro K hK; go_big_quiet_op; first | go_big_quiet_on | (refine ⟨_, fun _ _ => rfl, ?_⟩; go_big_quiet_on))))
      refine seq_build_as rfl (zs_built) (by rfl) ?_; intro K hK; simp only [Act.put, List.setIfInBounds_toArray, List.set_cons_zero, List.set_cons_succ]; refine hK _ ?_; clear hK K
      (repeat (first | (refine seq_skip (by rfl) ?_; intro K hK; simp only [Act.put, List.setIfInBounds_toArray, List.set_cons_zero, List.set_cons_succ]; refine hK _ ?_; clear hK K) | (refine seq_skipc (by rfl) ?_; intro K hK; simp only [Act.put, List.setIfInBounds_toArray, List.set_cons_zero, List.set_cons_succ]; refine hK _ ?_; clear hK K) | (refine seq_read (by rfl) (by rfl) ?_; intro K hK; go_big_quiet_op; first | go_big_quiet_on | (refine ⟨_, fun _ _ => rfl, ?_⟩; go_big_quiet_on))))
      refine seq_store_row rfl rfl rfl (k3) (by kernel_rfl) (by rfl) (by simp [Value.oneCell']) (by rfl) (Gap.row _ (by omega) (by omega) _) ?_; intro K hK; simp only [Act.put, List.setIfInBounds_toArray, List.set_cons_zero, List.set_cons_succ]; refine hK _ _ ?_; clear hK K
      replace k4 := k4.apart (show w.heap.size + 1 + 1 + 1 ≠ w.heap.size + 1 + 1 by omega) #[.int .u64 (S : Int), .slice B L.length d]
      refine seq_store_row rfl rfl rfl (k4) (by kernel_rfl) (by rfl) (by simp [Value.oneCell']) (by rfl) (Gap.row _ (by omega) (by omega) _) ?_; intro K hK; simp only [Act.put, List.setIfInBounds_toArray, List.set_cons_zero, List.set_cons_succ]; refine hK _ _ ?_; clear hK K
      replace k5 := (k5.apart (show w.heap.size + 1 + 1 + 1 + 1 ≠ w.heap.size + 1 + 1 by omega) #[.int .u64 (S : Int), .slice B L.length d]).apart (show w.heap.size + 1 + 1 + 1 + 1 ≠ w.heap.size + 1 + 1 + 1 by omega) #[.int .u64 (P : Int), .int .i64 (M : Int), .int .u64 (F : Int)]
      refine seq_store_row rfl rfl rfl (k5) (spt_info _) (by simp [sptC_size]) (sptC_one _) (by rfl) (Gap.row _ (by omega) (by omega) _) ?_; intro K hK; simp only [Act.put, List.setIfInBounds_toArray, List.set_cons_zero, List.set_cons_succ]; refine hK _ _ ?_; clear hK K
      (repeat (first | (refine seq_skip (by rfl) ?_; intro K hK; simp only [Act.put, List.setIfInBounds_toArray, List.set_cons_zero, List.set_cons_succ]; refine hK _ ?_; clear hK K) | (refine seq_skipc (by rfl) ?_; intro K hK; simp only [Act.put, List.setIfInBounds_toArray, List.set_cons_zero, List.set_cons_succ]; refine hK _ ?_; clear hK K) | (refine seq_read (by rfl) (by rfl) ?_; intro K hK; go_big_quiet_op; first | go_big_quiet_on | (refine ⟨_, fun _ _ => rfl, ?_⟩; go_big_quiet_on))))
      refine seq_done ?_
      go_wp2
      (try simp only [Exit.inBlock, Exit.then])
      (try rw [Exit.noGoto_ret])
      refine bodyPost_ret (results_ccct rfl _ _ rfl rfl rfl (((k3.row #[.int .u64 (S : Int), .slice B L.length d]).apart (by omega) #[.int .u64 (P : Int), .int .i64 (M : Int), .int .u64 (F : Int)]).apart (by omega) (sptC ⟨0, 0, getP 0⟩)) ((k4.row #[.int .u64 (P : Int), .int .i64 (M : Int), .int .u64 (F : Int)]).apart (by omega) (sptC ⟨0, 0, getP 0⟩)) (k5.row (sptC ⟨0, 0, getP 0⟩)) Tryd.underlying25 rfl (by kernel_rfl) Tryd.underlying27 rfl (by kernel_rfl) Tryd.underlying34 rfl (spt_info _)) rfl ?_
      have hE2 := ((HE.out.row (show w.heap.size ≤ w.heap.size + 1 + 1 by omega) #[.int .u64 (S : Int), .slice B L.length d]).row (show w.heap.size ≤ w.heap.size + 1 + 1 + 1 by omega) #[.int .u64 (P : Int), .int .i64 (M : Int), .int .u64 (F : Int)]).row (show w.heap.size ≤ w.heap.size + 1 + 1 + 1 + 1 by omega) ((sptC ⟨0, 0, getP 0⟩))
      exact ⟨B, d, hE2, .inr ⟨by rw [hz.out]; simp, by rw [hz.out]; rfl, hMo _ hE2⟩⟩
    obtain ⟨hq1, hq2, hq3⟩ := hx4 hl hv h0
    obtain ⟨f, hf⟩ : ∃ f, P + lowN' G = f := ⟨_, rfl⟩
    have hmk : mayB (mkL f) = true := mkL_may (by rw [← hf]; omega)
    have cfr := fun W (m : Mem W S B1 K d1) => rfresh19_o hp1 hp2 hbits h0 W m
    unfold FrO at cfr
    have hclr : (clrF K f).length ≤ K.length := by unfold clrF; exact cutL_len (by omega) []
    have cwi := fun W B' d' (m : Mem W S B' (clrF K f) d') => rwith19_c (a := a) (s := uk) (l := l + 1) (p := mkL f) (x := { SP with pt := mkL f }) W m (by omega) (by rw [← HSP.out]) (by rw [← HSP.out]) hl2 ha (by have := hA2.out.fit.tree.lt _ hA2.out.at_; exact this) hmk
    rw [hix] at cwi
    have hlk : stS (clrF K f) uk ix (putN (mkL f)) = frS K f uk ix := by unfold frS lnkS; rfl
    rw [hlk] at cwi
    unfold MdO at cwi
    rw [hf] at hq1 hq2 hq3 cfr
    have Hq1 := Lib.hid hq1
    have Hq2 := Lib.hid hq2
    have hbl : Tryd.prog.built 32 [(0, .bool true), (9, .int .u64 (f : Int))] = some (ptC (mkL f)) := by unfold mkL; rw [ptC_eq]; kernel_rfl
    have z11 : (sptC ({ SP with pt := mkL f } : Spt))[11]? = some (.int .u64 (f : Int)) := by unfold mkL; simp only [sptC_eq, ptC_eq]; rfl
    have zpt : (sptC ({ SP with pt := mkL f } : Spt)).extract 2 (2 + (ptC (mkL f)).size) = ptC (mkL f) := sptC_pt _
    have zset := sptC_set_pt SP (mkL f)
    obtain ⟨ml, hml⟩ : ∃ ml, mkL f = ml := ⟨_, rfl⟩
    rw [hml] at hbl z11 zpt zset cwi hmk
    obtain ⟨SQ, hSQ⟩ : ∃ SQ : Spt, ({ SP with pt := ml } : Spt) = SQ := ⟨_, rfl⟩
    rw [hSQ] at zset z11 zpt cwi
    clear hx1 hx2 hx3 hx4 hbits hA2 h0 hq1 hq2 hml hSQ hlk hmk
    generalize takeF G = G2 at *
    generalize frS K f uk ix = K2 at *
    generalize clrF K f = K1 at *
    go_wp2_with (refine wpList_load_part (by rfl) 32 _ rfl rfl h8 (hpt) Tryd.underlying32 rfl (pt_info _) ?_)
    refine (clf _).mono ?_
    rintro e w6 ⟨rfl, hE⟩
    (try replace hz := hz.ext hE); (try replace h1 := h1.ext hE); (try replace h2 := h2.ext hE); (try replace h6 := h6.ext hE); (try replace h7 := h7.ext hE); (try replace h8 := h8.ext hE); (try replace h9 := h9.ext hE); (try replace k1 := k1.ext hE); (try replace k3 := k3.ext hE); (try replace k4 := k4.ext hE); (try replace k5 := k5.ext hE); (try replace hM := hM.ext hE); (try replace HE := Lib.hid (HE.out.trans hE)); (try replace r0 := r0.ext hE); (try replace r1 := r1.ext hE); (try replace r2 := r2.ext hE); (try replace r3 := r3.ext hE); (try replace r4 := r4.ext hE); (try replace r5 := r5.ext hE); (try replace r6 := r6.ext hE)
    clear hE clf
    have y2 := (h8.cell 2).trans x2
    clear hp hix hl hv hf hq3
    go_wp2_with (first | (refine wpList_load_blk (by rfl) 25 _ rfl rfl h6 Tryd.underlying25 rfl (by kernel_rfl) ?_) | (refine wpList_load_blk (by rfl) 27 _ rfl rfl h7 Tryd.underlying27 rfl (by kernel_rfl) ?_))
    clear y2
    have l6 := h8.lt
    refine (cfr _ r0).mono ?_
    rintro e w7 ⟨B2, d2, rfl, r1, hO2, hE⟩
    (try replace hz := hz.ext hE); (try replace h1 := h1.ext hE); (try replace h2 := h2.ext hE); (try replace h6 := h6.ext hE); (try replace h7 := h7.ext hE); (try replace h8 := h8.ext hE); (try replace h9 := h9.ext hE); (try replace k1 := k1.ext hE); (try replace k3 := k3.ext hE); (try replace k4 := k4.ext hE); (try replace k5 := k5.ext hE); (try replace hM := hM.ext hE); (try replace HE := Lib.hid (HE.out.trans hE)); (try replace r0 := r0.ext hE); (try replace r1 := r1.ext hE); (try replace r2 := r2.ext hE); (try replace r3 := r3.ext hE); (try replace r4 := r4.ext hE); (try replace r5 := r5.ext hE); (try replace r6 := r6.ext hE)
    clear hE cfr r0
    have l7b := h8.lt
    have hO2g := hO2 gq
    have h9 : Blk ((w7.alloc (.cells #[.int .u64 (S : Int), .slice B2 K1.length d2] 25)).alloc (.cells #[.int .u64 (P : Int), .int .i64 (M : Int), .int .u64 (G2 : Int)] 27)) w7.heap.size 25 #[.int .u64 (S : Int), .slice B2 K1.length d2] := (Blk.new w7 _ _).alloc _
    have k1 : Blk ((w7.alloc (.cells #[.int .u64 (S : Int), .slice B2 K1.length d2] 25)).alloc (.cells #[.int .u64 (P : Int), .int .i64 (M : Int), .int .u64 (G2 : Int)] 27)) (w7.heap.size + 1) 27 #[.int .u64 (P : Int), .int .i64 (M : Int), .int .u64 (G2 : Int)] := blk_at (by simp)
    have h9b := h9
    have k1b := k1
    clear h9 k1
    have hE := ((Ext.refl w7).alloc (.cells #[.int .u64 (S : Int), .slice B2 K1.length d2] 25)).alloc (.cells #[.int .u64 (P : Int), .int .i64 (M : Int), .int .u64 (G2 : Int)] 27)
    (try replace hz := hz.ext hE); (try replace h1 := h1.ext hE); (try replace h2 := h2.ext hE); (try replace h6 := h6.ext hE); (try replace h7 := h7.ext hE); (try replace h8 := h8.ext hE); (try replace h9 := h9.ext hE); (try replace k1 := k1.ext hE); (try replace k3 := k3.ext hE); (try replace k4 := k4.ext hE); (try replace k5 := k5.ext hE); (try replace hM := hM.ext hE); (try replace HE := Lib.hid (HE.out.trans hE)); (try replace r0 := r0.ext hE); (try replace r1 := r1.ext hE); (try replace r2 := r2.ext hE); (try replace r3 := r3.ext hE); (try replace r4 := r4.ext hE); (try replace r5 := r5.ext hE); (try replace r6 := r6.ext hE)
    clear hE
    have h9 := h9b.apart (show w7.heap.size ≠ gq by omega) (sptC SQ)
    have k1 := k1b.apart (show w7.heap.size + 1 ≠ gq by omega) (sptC SQ)
    have h8s := h8.row (sptC SQ)
    have h8b := h8
    clear h8 h9b k1b
    replace h1 := h1.apart (show w.heap.size ≠ gq by omega) (sptC SQ)
    replace h2 := h2.apart (show w.heap.size + 1 ≠ gq by omega) (sptC SQ)
    replace k3 := k3.apart (show w.heap.size + 1 + 1 ≠ gq by omega) (sptC SQ)
    replace k4 := k4.apart (show w.heap.size + 1 + 1 + 1 ≠ gq by omega) (sptC SQ)
    replace k5 := k5.apart (show w.heap.size + 1 + 1 + 1 + 1 ≠ gq by omega) (sptC SQ)
    replace h6 := h6.apart (show w.heap.size + 1 + 1 + 1 + 1 + 1 ≠ gq by omega) (sptC SQ)
    replace h7 := h7.apart (show w.heap.size + 1 + 1 + 1 + 1 + 1 + 1 ≠ gq by omega) (sptC SQ)
    replace r1 := r1.row' hO2g (Nat.le_refl gq) l6 (sptC SQ)
    replace HE := Lib.hid (HE.out.row (show w.heap.size ≤ gq by omega) (sptC SQ))
    clear hO2 hO2g
    go_wp2_with (first | (refine wpList_build_as (by rfl) rfl (hbl) ?_) | (refine wpList_store_part rfl 32 _ _ rfl rfl rfl h8b (by simp [sptC_size, ptC_size]) (zset) (pt_info _) (ptC_one _) ?_) | (refine wpList_load_blk (by rfl) 25 _ rfl rfl h9 Tryd.underlying25 rfl (by kernel_rfl) ?_) | (refine wpList_load_blk (by rfl) 34 _ rfl rfl h8s Tryd.underlying34 rfl (by kernel_rfl) ?_) | (refine wpList_load_part (by rfl) 32 _ rfl rfl h8s (zpt) Tryd.underlying32 rfl (pt_info _) ?_))
    clear h8b
    have h8 := h8s
    clear h8s
    generalize World.setRow ((w7.alloc (.cells #[.int .u64 (S : Int), .slice B2 K1.length d2] 25)).alloc (.cells #[.int .u64 (P : Int), .int .i64 (M : Int), .int .u64 (G2 : Int)] 27)) gq (sptC SQ) = w8 at *
    refine (cwi _ _ _ r1).mono ?_
    have l8 := h7.lt
    rintro e w9 ⟨B3, d3, rfl, r2, hO3, hE⟩
    (try replace hz := hz.ext hE); (try replace h1 := h1.ext hE); (try replace h2 := h2.ext hE); (try replace h6 := h6.ext hE); (try replace h7 := h7.ext hE); (try replace h8 := h8.ext hE); (try replace h9 := h9.ext hE); (try replace k1 := k1.ext hE); (try replace k3 := k3.ext hE); (try replace k4 := k4.ext hE); (try replace k5 := k5.ext hE); (try replace hM := hM.ext hE); (try replace HE := Lib.hid (HE.out.trans hE)); (try replace r0 := r0.ext hE); (try replace r1 := r1.ext hE); (try replace r2 := r2.ext hE); (try replace r3 := r3.ext hE); (try replace r4 := r4.ext hE); (try replace r5 := r5.ext hE); (try replace r6 := r6.ext hE)
    clear hE cwi r1 h9
    have hO4 : Out w.heap.size (w.heap.size + 1 + 1 + 1 + 1 + 1 + 1 + 1) B3 K2.length := (hO3 w.heap.size).mono (by omega)
    have k1s := k1.apart (show w7.heap.size + 1 ≠ w.heap.size + 1 + 1 + 1 + 1 + 1 by omega) #[.int .u64 (S : Int), .slice B3 K2.length d3]
    have h7s := h7.apart (show w.heap.size + 1 + 1 + 1 + 1 + 1 + 1 ≠ w.heap.size + 1 + 1 + 1 + 1 + 1 by omega) #[.int .u64 (S : Int), .slice B3 K2.length d3]
    have h6f := (h6.row #[.int .u64 (S : Int), .slice B3 K2.length d3]).apart (show w.heap.size + 1 + 1 + 1 + 1 + 1 ≠ w.heap.size + 1 + 1 + 1 + 1 + 1 + 1 by omega) #[.int .u64 (P : Int), .int .i64 (M : Int), .int .u64 (G2 : Int)]
    have h7f := h7s.row #[.int .u64 (P : Int), .int .i64 (M : Int), .int .u64 (G2 : Int)]
    have h1f := (h1.apart (show w.heap.size ≠ w.heap.size + 1 + 1 + 1 + 1 + 1 by omega) #[.int .u64 (S : Int), .slice B3 K2.length d3]).apart (show w.heap.size ≠ w.heap.size + 1 + 1 + 1 + 1 + 1 + 1 by omega) #[.int .u64 (P : Int), .int .i64 (M : Int), .int .u64 (G2 : Int)]
    have h2f := (h2.apart (show w.heap.size + 1 ≠ w.heap.size + 1 + 1 + 1 + 1 + 1 by omega) #[.int .u64 (S : Int), .slice B3 K2.length d3]).apart (show w.heap.size + 1 ≠ w.heap.size + 1 + 1 + 1 + 1 + 1 + 1 by omega) #[.int .u64 (P : Int), .int .i64 (M : Int), .int .u64 (G2 : Int)]
    have k3f := (k3.apart (show w.heap.size + 1 + 1 ≠ w.heap.size + 1 + 1 + 1 + 1 + 1 by omega) #[.int .u64 (S : Int), .slice B3 K2.length d3]).apart (show w.heap.size + 1 + 1 ≠ w.heap.size + 1 + 1 + 1 + 1 + 1 + 1 by omega) #[.int .u64 (P : Int), .int .i64 (M : Int), .int .u64 (G2 : Int)]
    have k4f := (k4.apart (show w.heap.size + 1 + 1 + 1 ≠ w.heap.size + 1 + 1 + 1 + 1 + 1 by omega) #[.int .u64 (S : Int), .slice B3 K2.length d3]).apart (show w.heap.size + 1 + 1 + 1 ≠ w.heap.size + 1 + 1 + 1 + 1 + 1 + 1 by omega) #[.int .u64 (P : Int), .int .i64 (M : Int), .int .u64 (G2 : Int)]
    have k5f := (k5.apart (show w.heap.size + 1 + 1 + 1 + 1 ≠ w.heap.size + 1 + 1 + 1 + 1 + 1 by omega) #[.int .u64 (S : Int), .slice B3 K2.length d3]).apart (show w.heap.size + 1 + 1 + 1 + 1 ≠ w.heap.size + 1 + 1 + 1 + 1 + 1 + 1 by omega) #[.int .u64 (P : Int), .int .i64 (M : Int), .int .u64 (G2 : Int)]
    have h8f := (h8.apart (show gq ≠ w.heap.size + 1 + 1 + 1 + 1 + 1 by omega) #[.int .u64 (S : Int), .slice B3 K2.length d3]).apart (show gq ≠ w.heap.size + 1 + 1 + 1 + 1 + 1 + 1 by omega) #[.int .u64 (P : Int), .int .i64 (M : Int), .int .u64 (G2 : Int)]
    have y11 := (h8f.cell 11).trans z11
    have rf := (r2.row' hO4 (show w.heap.size ≤ w.heap.size + 1 + 1 + 1 + 1 + 1 by omega) (by omega) #[.int .u64 (S : Int), .slice B3 K2.length d3]).row' hO4 (show w.heap.size ≤ w.heap.size + 1 + 1 + 1 + 1 + 1 + 1 by omega) (by omega) #[.int .u64 (P : Int), .int .i64 (M : Int), .int .u64 (G2 : Int)]
    have HEf := Lib.hid ((HE.out.row (show w.heap.size ≤ w.heap.size + 1 + 1 + 1 + 1 + 1 by omega) #[.int .u64 (S : Int), .slice B3 K2.length d3]).row (show w.heap.size ≤ w.heap.size + 1 + 1 + 1 + 1 + 1 + 1 by omega) #[.int .u64 (P : Int), .int .i64 (M : Int), .int .u64 (G2 : Int)])
    clear HE k3 k4 k5 h1 h2 h7 h8 h8f r2 hO3 k1 l6 l7b l8 l7 hwB hwE hgB hs0
    go_wp2_with (first | (refine wpList_store_blk rfl 25 _ _ rfl rfl rfl h6 (by kernel_rfl) (by rfl) (by simp [Value.oneCell']) ?_) | (refine wpList_load_blk (by rfl) 27 _ rfl rfl k1s Tryd.underlying27 rfl (by kernel_rfl) ?_) | (refine wpList_store_blk rfl 27 _ _ rfl rfl rfl h7s (by kernel_rfl) (by rfl) (by simp [Value.oneCell']) ?_))
    go_roundw
    case rel => exact ⟨l, f, G2, K2, B3, d3, by omega, by omega, rfl, by go_num, Lib.hid (by rw [← Hq1.out]; exact hD.out), Hq2, h1f, h2f, k3f, k4f, k5f, h6f, h7f, rf, hO4, HEf.out⟩
    case measure => simp [intOf]
end Go.Proofs.YticbjiddbjgikaaDoor
