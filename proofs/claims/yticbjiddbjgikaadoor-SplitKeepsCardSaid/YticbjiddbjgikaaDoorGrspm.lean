/- atlasref19: With, Empty. -/
import Derived.Test.YticbjiddbjgikaaDoorGrtac
import Derived.Test.YticbjiddbjgikaaDoorGrsix
import Derived.Test.YticbjiddbjgikaaDoorGsplm
import Derived.Test.YticbjiddbjgikaaDoorGflo
namespace Go.Proofs.YticbjiddbjgikaaDoor
open Go.ChangeShapes Go.WideShapes Go.ChangeAt Go.RowKit
set_option linter.unusedVariables false
set_option linter.unusedSimpArgs false
set_option maxRecDepth 10000
attribute [local irreducible] World.setRow World.alloc Blk
set_option maxHeartbeats 4000000 in
theorem rwith19_c {S : Nat} {B : Option Addr} {L : List (Nat × Nat)} {d a s l : Nat} {p : Pt} {x : Spt} (w : World) (hM : Mem w S B L d) (hf : L.length ≤ 35990) (hx0 : x.tb = s) (hx1 : x.lv = (l : Int)) (hl : l ≤ 2) (ha : a < 18446744073709551616) (hs : s < S / 4096) (hmy : mayB p = true) :
    Calls Tryd.prog 23 #[.agg #[.int .u64 (S : Int), .slice B L.length d], .agg (sptC x), .int .u64 (a : Int), .agg (ptC p)] w (MdO S (stS L s (ixN a l) (putN p)) w) := by
  have hj5 := ixN_lt a l
  have hSle := hM.ok.le
  have hwb := put_lt hmy
  have cpu := fun W => rput_c p hmy W
  have cix := fun W => rindex5_c (a : Int) (l : Int) (by omega) (by omega) (by omega) (by omega) W
  rw [idx_ix] at cix
  have x0 := sptC_tb x
  have x1 := sptC_lv x
  rw [hx0] at x0
  rw [hx1] at x1
  generalize ixN a l = j at *
  have cst := fun W (m : Mem W S B L d) => rset_o m (p := 512 * s + j) (v := putN p) (K := stS L s j (putN p)) (by have := hM.ok.mod8; omega) hwb (by unfold stS; rw [store8_cut (by omega) hwb, show 8 * (512 * s + j) / 8 = 512 * s + j by omega]) (by unfold stS; exact storeL_is hM.rl (by have := hM.ok.mod8; omega) _ _) (by have := storeL_len L (8 * (512 * s + j)) 8 (putN p); unfold stS; omega)
  have hm : ∀ W : World, Ext w W → Mem W S B L d := fun W e => hM.ext e
  have hs1 : IntKind.u64.wrap (512 * (s : Int)) = 512 * (s : Int) := by rw [IntKind.wrap_u64]; omega
  have hs3 : IntKind.u64.wrap (512 * (s : Int) + (j : Int)) = ((512 * s + j : Nat) : Int) := by rw [IntKind.wrap_u64]; omega
  generalize sptC x = SP at *
  have h1 : Blk ((((w.alloc (.cells #[.int .u64 (S : Int), .slice B L.length d] 25)).alloc (.cells SP 34)).alloc (.cells (ptC p) 32)).alloc (.cells #[.int .u64 0, .slice none 0 0] 25)) w.heap.size 25 #[.int .u64 (S : Int), .slice B L.length d] := (((Blk.new w _ _).alloc _).alloc _).alloc _
  have h2 : Blk ((((w.alloc (.cells #[.int .u64 (S : Int), .slice B L.length d] 25)).alloc (.cells SP 34)).alloc (.cells (ptC p) 32)).alloc (.cells #[.int .u64 0, .slice none 0 0] 25)) (w.heap.size + 1) 34 SP := ((blk_at (by simp)).alloc _).alloc _
  have h3 : Blk ((((w.alloc (.cells #[.int .u64 (S : Int), .slice B L.length d] 25)).alloc (.cells SP 34)).alloc (.cells (ptC p) 32)).alloc (.cells #[.int .u64 0, .slice none 0 0] 25)) (w.heap.size + 1 + 1) 32 (ptC p) := (blk_at (by simp)).alloc _
  have k2 : Blk ((((w.alloc (.cells #[.int .u64 (S : Int), .slice B L.length d] 25)).alloc (.cells SP 34)).alloc (.cells (ptC p) 32)).alloc (.cells #[.int .u64 0, .slice none 0 0] 25)) (w.heap.size + 1 + 1 + 1) 25 #[.int .u64 0, .slice none 0 0] := blk_at (by simp)
  have HE := Lib.hid (((((Ext.refl w).alloc (.cells #[.int .u64 (S : Int), .slice B L.length d] 25)).alloc (.cells SP 34)).alloc (.cells (ptC p) 32)).alloc (.cells #[.int .u64 0, .slice none 0 0] 25))
  go_enter Tryd.func23, Tryd.ntmps23
  go_wp2_with fail
  generalize (((w.alloc (.cells #[.int .u64 (S : Int), .slice B L.length d] 25)).alloc (.cells SP 34)).alloc (.cells (ptC p) 32)).alloc (.cells #[.int .u64 0, .slice none 0 0] 25) = W1 at *
  generalize putN p = v at *
  generalize stS L s j v = K at *
  clear hM
  have hE := (Ext.refl W1).drew
  (try replace hm := hm.ext hE); (try replace h1 := h1.ext hE); (try replace h2 := h2.ext hE); (try replace h3 := h3.ext hE); (try replace k2 := k2.ext hE); (try replace hM := hM.ext hE); (try replace hN := hN.ext hE); (try replace HE := Lib.hid (HE.out.trans hE)); (try replace r0 := r0.ext hE); (try replace r1 := r1.ext hE); (try replace r2 := r2.ext hE); (try replace r3 := r3.ext hE); (try replace r4 := r4.ext hE); (try replace r5 := r5.ext hE); (try replace r6 := r6.ext hE)
  clear hE
  refine wp_region_seq [(0, false), (1, false), (2, false), (3, false), (4, false), (5, false), (6, false), (10, false), (7, true), (8, false), (9, false), (11, true), (12, true), (13, true)] (Gap (w.heap.size + 1 + 1 + 1) (w.heap.size + 1 + 1 + 1 + 1)) (by kernel_rfl) (by kernel_rfl) (Gap.refl _ _) (fun _ _ _ => Gap.trans) ?_; simp only [List.map, nth_z, nth_s]
  generalize W1.drew = w2 at *
  have hl2 := k2.lt
  refine seq_load rfl rfl (fun x hx => Gap.blk hx (h1) (by omega)) rfl Tryd.underlying25 (by kernel_rfl) (by rfl) ?_; intro K hK; simp only [Act.put, List.setIfInBounds_toArray, List.set_cons_zero, List.set_cons_succ]; refine hK _ ?_; clear hK K
  (repeat (first | (refine seq_skip (by rfl) ?_; intro K hK; simp only [Act.put, List.setIfInBounds_toArray, List.set_cons_zero, List.set_cons_succ]; refine hK _ ?_; clear hK K) | (refine seq_skipc (by rfl) ?_; intro K hK; simp only [Act.put, List.setIfInBounds_toArray, List.set_cons_zero, List.set_cons_succ]; refine hK _ ?_; clear hK K) | (refine seq_read (by rfl) (by rfl) ?_; intro K hK; go_big_quiet_op; first | go_big_quiet_on | (refine ⟨_, fun _ _ => rfl, ?_⟩; go_big_quiet_on))))
  refine seq_value (.int .u64 (s : Int)) (by rfl) (fun x hx => by have hq := ((Gap.blk hx (h2) (by omega)).cell 0).trans (x0); simp [go_sem, execOp, Act.eval, hq]) ?_; intro K hK; simp only [Act.put, List.setIfInBounds_toArray, List.set_cons_zero, List.set_cons_succ]; refine hK _ ?_; clear hK K
  (repeat (first | (refine seq_skip (by rfl) ?_; intro K hK; simp only [Act.put, List.setIfInBounds_toArray, List.set_cons_zero, List.set_cons_succ]; refine hK _ ?_; clear hK K) | (refine seq_skipc (by rfl) ?_; intro K hK; simp only [Act.put, List.setIfInBounds_toArray, List.set_cons_zero, List.set_cons_succ]; refine hK _ ?_; clear hK K) | (refine seq_read (by rfl) (by rfl) ?_; intro K hK; go_big_quiet_op; first | go_big_quiet_on | (refine ⟨_, fun _ _ => rfl, ?_⟩; go_big_quiet_on))))
  refine seq_value (.int .i64 (l : Int)) (by rfl) (fun x hx => by have hq := ((Gap.blk hx (h2) (by omega)).cell 1).trans (x1); simp [go_sem, execOp, Act.eval, hq]) ?_; intro K hK; simp only [Act.put, List.setIfInBounds_toArray, List.set_cons_zero, List.set_cons_succ]; refine hK _ ?_; clear hK K
  refine seq_load rfl rfl (fun x hx => Gap.blk hx (h3) (by omega)) rfl Tryd.underlying32 (pt_info _) (by rfl) ?_; intro K hK; simp only [Act.put, List.setIfInBounds_toArray, List.set_cons_zero, List.set_cons_succ]; refine hK _ ?_; clear hK K
  refine seq_call (calls_ext (cix _)) rfl Tryd.func30 (by kernel_rfl) (by kernel_rfl) (by rfl) (by rfl) ?_; intro K hK; rintro e w' ⟨rfl, hE⟩; refine ⟨_, rfl, (Gap.ext hE), ?_⟩; simp only [Act.put, List.setIfInBounds_toArray, List.set_cons_zero, List.set_cons_succ]; refine hK _ _ ?_; clear hK K
  (try replace hm := hm.ext hE); (try replace h1 := h1.ext hE); (try replace h2 := h2.ext hE); (try replace h3 := h3.ext hE); (try replace k2 := k2.ext hE); (try replace hM := hM.ext hE); (try replace hN := hN.ext hE); (try replace HE := Lib.hid (HE.out.trans hE)); (try replace r0 := r0.ext hE); (try replace r1 := r1.ext hE); (try replace r2 := r2.ext hE); (try replace r3 := r3.ext hE); (try replace r4 := r4.ext hE); (try replace r5 := r5.ext hE); (try replace r6 := r6.ext hE)
  clear hE
  (repeat (first | (refine seq_skip (by rfl) ?_; intro K hK; simp only [Act.put, List.setIfInBounds_toArray, List.set_cons_zero, List.set_cons_succ]; refine hK _ ?_; clear hK K) | (refine seq_skipc (by rfl) ?_; intro K hK; simp only [Act.put, List.setIfInBounds_toArray, List.set_cons_zero, List.set_cons_succ]; refine hK _ ?_; clear hK K) | (refine seq_read (by rfl) (by rfl) ?_; intro K hK; go_big_quiet_op; first | go_big_quiet_on | (refine ⟨_, fun _ _ => rfl, ?_⟩; go_big_quiet_on))))
  refine seq_call (cpu _) rfl Tryd.func38 (by kernel_rfl) (by kernel_rfl) (by rfl) (by rfl) ?_; intro K hK; rintro e w' ⟨rfl, hE⟩; refine ⟨_, rfl, (Gap.ext hE), ?_⟩; simp only [Act.put, List.setIfInBounds_toArray, List.set_cons_zero, List.set_cons_succ]; refine hK _ _ ?_; clear hK K
  (try replace hm := hm.ext hE); (try replace h1 := h1.ext hE); (try replace h2 := h2.ext hE); (try replace h3 := h3.ext hE); (try replace k2 := k2.ext hE); (try replace hM := hM.ext hE); (try replace hN := hN.ext hE); (try replace HE := Lib.hid (HE.out.trans hE)); (try replace r0 := r0.ext hE); (try replace r1 := r1.ext hE); (try replace r2 := r2.ext hE); (try replace r3 := r3.ext hE); (try replace r4 := r4.ext hE); (try replace r5 := r5.ext hE); (try replace r6 := r6.ext hE)
  clear hE
  have l2 := k2.lt
  refine seq_call (cst _ (hm _ HE.out)) rfl Tryd.func49 (by kernel_rfl) (by kernel_rfl) (by rfl) (by rfl) ?_; intro K hK; rintro e w' ⟨A9, c9, rfl, hN, ho, hE⟩; refine ⟨_, rfl, (Gap.ext hE), ?_⟩; simp only [Act.put, List.setIfInBounds_toArray, List.set_cons_zero, List.set_cons_succ]; refine hK _ _ ?_; clear hK K
  have hO1 := ho (w.heap.size + 1 + 1 + 1)
  have hO2 : ∀ lo, Out lo w.heap.size A9 K.length := fun lo => (ho lo).mono (by omega)
  (try replace hm := hm.ext hE); (try replace h1 := h1.ext hE); (try replace h2 := h2.ext hE); (try replace h3 := h3.ext hE); (try replace k2 := k2.ext hE); (try replace hM := hM.ext hE); (try replace hN := hN.ext hE); (try replace HE := Lib.hid (HE.out.trans hE)); (try replace r0 := r0.ext hE); (try replace r1 := r1.ext hE); (try replace r2 := r2.ext hE); (try replace r3 := r3.ext hE); (try replace r4 := r4.ext hE); (try replace r5 := r5.ext hE); (try replace r6 := r6.ext hE)
  clear hE ho
  refine seq_store_row rfl rfl rfl (k2) (by kernel_rfl) (by rfl) (by simp [Value.oneCell']) (by rfl) (Gap.row _ (by omega) (by omega) _) ?_; intro K hK; simp only [Act.put, List.setIfInBounds_toArray, List.set_cons_zero, List.set_cons_succ]; refine hK _ _ ?_; clear hK K
  refine seq_done ?_
  go_wp2
  (try simp only [Exit.inBlock, Exit.then]); refine bodyPost_ret (results_cell_row rfl _ _ _ _ _ _ _ rfl ((k2.row _).mem19) Tryd.underlying25 rfl (by kernel_rfl)) rfl ?_
  exact ⟨A9, c9, rfl, hN.row' hO1 (Nat.le_refl _) (by omega) _, hO2, HE.out.row (by omega) _⟩
theorem emp_yes {L : List (Nat × Nat)} {f : Nat} (h : ∀ j, j < L.length → atN L j / 512 ≠ f) : empB L f = true := by
  unfold empB
  rw [List.all_eq_true]
  intro x hx
  obtain ⟨j, hj, rfl⟩ := List.getElem_of_mem hx
  have := h j hj
  rw [atN_get hj] at this
  simpa using this
theorem emp_no {L : List (Nat × Nat)} {f j : Nat} (hj : j < L.length) (h : atN L j / 512 = f) : empB L f = false := by
  unfold empB
  rw [List.all_eq_false]
  rw [atN_get hj] at h
  exact ⟨L[j], List.getElem_mem hj, by simp [h]⟩
set_option maxHeartbeats 1000000 in
theorem rempty19_c {S : Nat} {B : Option Addr} {L : List (Nat × Nat)} {d f : Nat} (w : World) (hM : Mem w S B L d) (hf : f < 17592186044416) :
    Calls Tryd.prog 42 #[.agg #[.int .u64 (S : Int), .slice B L.length d], .int .u64 (f : Int)] w fun r w' => r = .returned (.bool (empB L f)) ∧ Ext w w' := by
  have h1 := Blk.new w 25 #[.int .u64 (S : Int), .slice B L.length d]
  have HE := Lib.hid ((Ext.refl w).alloc (.cells #[.int .u64 (S : Int), .slice B L.length d] 25))
  go_enter Tryd.func42, Tryd.ntmps42
  have hfew := hM.few
  have hrow := hM.row
  have hcs := hM.rl.isCells (by have := hM.ok.le; omega)
  have hc' : ∀ W : World, Ext w W → ClB W B L := fun W e => (hrow.ext e).1
  clear hrow hM
  go_wp2_with fail
  go_loopw [5] (fun i wr => ∃ k : Nat, k ≤ L.length ∧ i = .int .i64 k ∧ Hid (∀ j, j < k → atN L j / 512 ≠ f) ∧ Blk wr w.heap.size 25 #[.int .u64 (S : Int), .slice B L.length d] ∧ Ext w wr) (fun i _ => (L.length - intOf i).toNat)
  case atStart => exact ⟨0, by omega, rfl, Lib.hid fun j hj => by omega, h1, HE.out⟩
  case round =>
    clear h1 HE
    obtain ⟨k, hk, rfl, hq, h1, hE⟩ := hrel
    have x1 := h1.cell 1
    have HE := Lib.hid hE
    clear hE
    by_cases hlt : k < L.length
    · obtain ⟨b, off, rfl, hb, hc⟩ := (hc' _ HE.out) (by omega)
      obtain ⟨hc1, hc2⟩ := hc k hlt
      have hAt := (hcs k hlt).1
      have hz : (k : Int) < (L.length : Int) := by omega
      by_cases he : atN L k / 512 = f
      · have H := Lib.hid (emp_no hlt he)
        have hd : (((atN L k : Nat) : Int) / 512 == (f : Int)) = true := by simp; omega
        clear he hc hc' hcs
        generalize atN L k = ak at *
        go_wp2
        go_ret
        exact ⟨by rw [H.out]; rfl, HE.out⟩
      have hd : (((atN L k : Nat) : Int) / 512 == (f : Int)) = false := by simp; omega
      have hq1 : Hid (∀ j, j < k + 1 → atN L j / 512 ≠ f) := Lib.hid fun j hj => by
        by_cases e : j = k
        · subst e; exact he
        · exact hq.out j (by omega)
      clear he hc hcs
      generalize atN L k = ak at *
      go_wp2
      go_roundw
      case rel => exact ⟨k + 1, by omega, by go_num, hq1, h1, HE.out⟩
      case measure => simp [intOf]; omega
    · obtain rfl : k = L.length := by omega
      have hz := Lib.hid (emp_yes hq.out)
      clear hq hc' hcs
      go_wp2
      go_ret
      exact ⟨by rw [hz.out]; rfl, HE.out⟩
end Go.Proofs.YticbjiddbjgikaaDoor
/- atlasref20: Prune. -/
namespace Go.Proofs.YticbjiddbjgikaaDoor
open Go.ChangeShapes Go.WideShapes Go.ChangeAt Go.RowKit
set_option linter.unusedVariables false
set_option linter.unusedSimpArgs false
set_option maxRecDepth 10000
attribute [local irreducible] World.setRow World.alloc Blk
set_option maxHeartbeats 8000000 in
theorem rprune_c {S P M F n t a : Nat} {B : Option Addr} {L : List (Nat × Nat)} {d : Nat} (hfit : Fit S P M F n t L) (hpk : PoolK S P M) (hF : F < 2 ^ M) (hfew : L.length ≤ 35990) (hn : n ≤ 2) (ha : a < 18446744073709551616) (w : World) (hM : Mem w S B L d) :
    Calls Tryd.prog 20 #[.agg #[.int .u64 (S : Int), .slice B L.length d], (.agg #[.int .u64 (P : Int), .int .i64 (M : Int), .int .u64 (F : Int)]), .int .u64 (t : Int), .int .i64 (n : Int), .int .u64 (a : Int)] w fun r w' => ∃ B' d', r = .returned (.tuple #[.agg #[.int .u64 (S : Int), .slice B' (prS P M a n t n L F).1.length d'], (.agg #[.int .u64 (P : Int), .int .i64 (M : Int), .int .u64 ((prS P M a n t n L F).2 : Int)])]) ∧ Mem w' S B' (prS P M a n t n L F).1 d' ∧ Ext w w' := by
  have hp1 := hpk.p
  have hp2 := hpk.m
  have hst0 : ∀ k q, prS P M a n t k L F = q → PrIs S P M n t L q := fun k q e => by rw [← e]; exact pr_is hpk hfit hF k
  have hstep : ∀ k (q : List (Nat × Nat) × Nat), prS P M a n t k L F = q → (reachT q.1 a (k + 1) n t).2 = k + 1 → linkB (tE q.1 (reachT q.1 a (k + 1) n t).1 (ixN a (k + 1))) = true → empB q.1 (tE q.1 (reachT q.1 a (k + 1) n t).1 (ixN a (k + 1))).pp = true →
      UnlIs S P M q.2 n t q.1 (reachT q.1 a (k + 1) n t).1 (ixN a (k + 1)) k (tE q.1 (reachT q.1 a (k + 1) n t).1 (ixN a (k + 1))).pp ∧
      prS P M a n t (k + 1) L F = (stS (clrF q.1 (tE q.1 (reachT q.1 a (k + 1) n t).1 (ixN a (k + 1))).pp) (reachT q.1 a (k + 1) n t).1 (ixN a (k + 1)) 0, freedN P M q.2 (tE q.1 (reachT q.1 a (k + 1) n t).1 (ixN a (k + 1))).pp) := fun k q e c1 c2 c3 => by
    refine ⟨pr_one hpk (hst0 k q e) c1 c2 c3, ?_⟩
    rw [prS, e, if_pos (by rw [c1]; exact ⟨rfl, c2, c3⟩), c1]
  have hskip : ∀ k (q : List (Nat × Nat) × Nat), prS P M a n t k L F = q → ¬ ((reachT q.1 a (k + 1) n t).2 = k + 1 ∧ linkB (tE q.1 (reachT q.1 a (k + 1) n t).1 (ixN a (reachT q.1 a (k + 1) n t).2)) = true ∧ empB q.1 (tE q.1 (reachT q.1 a (k + 1) n t).1 (ixN a (reachT q.1 a (k + 1) n t).2)).pp = true) → prS P M a n t (k + 1) L F = q := fun k q e c => by
    rw [prS, e, if_neg c]
  have ht := hfit.tree.top
  have hSle := hM.ok.le
  have h0 : prS P M a n t 0 L F = (L, F) := rfl
  obtain ⟨h1, h2, k3, k4, hE⟩ := four_new w #[.int .u64 (S : Int), .slice B L.length d] #[.int .u64 (P : Int), .int .i64 (M : Int), .int .u64 (F : Int)]
  have HE := Lib.hid hE
  have hM1 := hM.ext hE
  have hO1 := hM.out (w.heap.size + 1 + 1 + 1 + 1)
  clear hE
  go_enter Tryd.func20, Tryd.ntmps20
  go_wp2_with fail
  generalize (((w.alloc (.cells #[.int .u64 (S : Int), .slice B L.length d] 25)).alloc (.cells #[.int .u64 (P : Int), .int .i64 (M : Int), .int .u64 (F : Int)] 27)).alloc (.cells #[.int .u64 0, .slice none 0 0] 25)).alloc (.cells #[.int .u64 0, .int .i64 0, .int .u64 0] 27) = W1 at *
  go_loopw [12] (fun i wr => ∃ (k : Nat) (q : List (Nat × Nat) × Nat) (B1 : Option Addr) (d1 : Nat), k ≤ n ∧ i = .int .i64 k ∧ Hid (prS P M a n t k L F = q) ∧ Blk wr w.heap.size 25 #[.int .u64 (S : Int), .slice B1 q.1.length d1] ∧ Blk wr (w.heap.size + 1) 27 #[.int .u64 (P : Int), .int .i64 (M : Int), .int .u64 (q.2 : Int)] ∧
      Blk wr (w.heap.size + 1 + 1) 25 #[.int .u64 0, .slice none 0 0] ∧ Blk wr (w.heap.size + 1 + 1 + 1) 27 #[.int .u64 0, .int .i64 0, .int .u64 0] ∧ Mem wr S B1 q.1 d1 ∧ Out w.heap.size (w.heap.size + 1 + 1 + 1 + 1) B1 q.1.length ∧ Ext w wr) (fun i _ => (n - intOf i).toNat)
  case atStart => exact ⟨0, (L, F), B, d, by omega, rfl, Lib.hid h0, h1, h2, k3, k4, hM1, hO1, HE.out⟩
  case round =>
    clear h1 h2 k3 k4 hM1 hO1 HE hM h0
    obtain ⟨k, q, B1, d1, hk, rfl, hq, h1, h2, k3, k4, hM1, hO1, hE⟩ := hrel
    have HE := Lib.hid hE
    clear hE
    have l4 := k4.lt
    by_cases hlt : k < n
    case neg =>
      obtain rfl : k = n := by omega
      clear hst0 hstep hskip hlt hk
      go_wp2_with fail
      have hE := (Ext.refl wr).drew
      replace hM1 := hM1.ext hE
      (try replace h1 := h1.ext hE); (try replace h2 := h2.ext hE); (try replace h5 := h5.ext hE); (try replace h6 := h6.ext hE); (try replace h7 := h7.ext hE); (try replace k3 := k3.ext hE); (try replace k4 := k4.ext hE); (try replace hM := hM.ext hE); (try replace HE := Lib.hid (HE.out.trans hE)); (try replace r0 := r0.ext hE); (try replace r1 := r1.ext hE); (try replace r2 := r2.ext hE); (try replace r3 := r3.ext hE); (try replace r4 := r4.ext hE); (try replace r5 := r5.ext hE); (try replace r6 := r6.ext hE)
      clear hE
      refine wp_region_seq [(0, false), (1, false), (2, true), (3, true)] (Gap (w.heap.size + 1 + 1) (w.heap.size + 1 + 1 + 1 + 1)) (by kernel_rfl) (by kernel_rfl) (Gap.refl _ _) (fun _ _ _ => Gap.trans) ?_; simp only [List.map, nth_z, nth_s]
      generalize wr.drew = w2 at *
      refine seq_load rfl rfl (fun x hx => Gap.blk hx (h1) (by omega)) rfl Tryd.underlying25 (by kernel_rfl) (by rfl) ?_; intro K hK; simp only [Act.put, List.setIfInBounds_toArray, List.set_cons_zero, List.set_cons_succ]; refine hK _ ?_; clear hK K
      refine seq_load rfl rfl (fun x hx => Gap.blk hx (h2) (by omega)) rfl Tryd.underlying27 (by kernel_rfl) (by rfl) ?_; intro K hK; simp only [Act.put, List.setIfInBounds_toArray, List.set_cons_zero, List.set_cons_succ]; refine hK _ ?_; clear hK K
      refine seq_store_row rfl rfl rfl (k3) (by kernel_rfl) (by rfl) (by simp [Value.oneCell']) (by rfl) (Gap.row _ (by omega) (by omega) _) ?_; intro K hK; simp only [Act.put, List.setIfInBounds_toArray, List.set_cons_zero, List.set_cons_succ]; refine hK _ _ ?_; clear hK K
      replace k4 := k4.apart (show w.heap.size + 1 + 1 + 1 ≠ w.heap.size + 1 + 1 by omega) #[.int .u64 (S : Int), .slice B1 q.1.length d1]
      refine seq_store_row rfl rfl rfl (k4) (by kernel_rfl) (by rfl) (by simp [Value.oneCell']) (by rfl) (Gap.row _ (by omega) (by omega) _) ?_; intro K hK; simp only [Act.put, List.setIfInBounds_toArray, List.set_cons_zero, List.set_cons_succ]; refine hK _ _ ?_; clear hK K
      refine seq_done ?_
      go_wp2
      (try simp only [Exit.inBlock, Exit.then]); (try rw [Exit.noGoto_ret]); refine bodyPost_ret (results_cc rfl _ _ rfl rfl (((k3.row _).apart (by omega) _)) ((k4.row _)) Tryd.underlying25 rfl (by first | exact xx_info _ | kernel_rfl) Tryd.underlying27 rfl (by first | exact xx_info _ | kernel_rfl)) rfl ?_
      have hE2 := (HE.out.row (show w.heap.size ≤ w.heap.size + 1 + 1 by omega) #[.int .u64 (S : Int), .slice B1 q.1.length d1]).row (show w.heap.size ≤ w.heap.size + 1 + 1 + 1 by omega) #[.int .u64 (P : Int), .int .i64 (M : Int), .int .u64 (q.2 : Int)]
      rw [hq.out]
      exact ⟨B1, d1, rfl, (hM1.row' hO1 (by omega) (by omega) _).row' hO1 (by omega) (by omega) _, hE2⟩
    have hI := hst0 k q hq.out
    have cre := fun W (m : Mem W S B1 q.1 d1) => rreach19_c (k := k + 1) ha (by omega) n hn t W (by omega) m
    have hsp : spotW q.1 (k + 1) n t a = ⟨(reachT q.1 a (k + 1) n t).1, ((reachT q.1 a (k + 1) n t).2 : Int), tE q.1 (reachT q.1 a (k + 1) n t).1 (ixN a (reachT q.1 a (k + 1) n t).2)⟩ := by unfold spotW; rfl
    have hr2 : (reachT q.1 a (k + 1) n t).2 ≤ n := tabs_le (reach_mem q.1 a (k + 1) n t)
    have hst := hstep k q hq.out
    have hsk := hskip k q hq.out
    clear hst0 hstep hskip
    obtain ⟨r, hr⟩ : ∃ r, reachT q.1 a (k + 1) n t = r := ⟨_, rfl⟩
    rw [hr] at hsp hst hsk hr2
    clear hr
    rw [hsp] at cre
    clear hsp
    have cem := fun W (m : Mem W S B1 q.1 d1) => rempty19_c (f := (tE q.1 r.1 (ixN a r.2)).pp) W m (tE_pp _ _ _)
    have clk := fun W => rlink_c (tE q.1 r.1 (ixN a r.2)) W
    have x1 : (sptC (⟨r.1, (r.2 : Int), tE q.1 r.1 (ixN a r.2)⟩ : Spt))[1]? = some (.int .i64 (r.2 : Int)) := sptC_lv _
    have x11 : (sptC (⟨r.1, (r.2 : Int), tE q.1 r.1 (ixN a r.2)⟩ : Spt))[11]? = some (.int .u64 ((tE q.1 r.1 (ixN a r.2)).pp : Int)) := by simp only [sptC_eq, ptC_eq]; rfl
    have hpt : (sptC (⟨r.1, (r.2 : Int), tE q.1 r.1 (ixN a r.2)⟩ : Spt)).extract 2 (2 + (ptC (tE q.1 r.1 (ixN a r.2))).size) = ptC (tE q.1 r.1 (ixN a r.2)) := sptC_pt _
    have hZ : Tryd.prog.info? 34 = Tryd.prog.info? 34 := rfl
    clear hZ
    have hs0 : (⟨r.1, (r.2 : Int), tE q.1 r.1 (ixN a r.2)⟩ : Spt).tb = r.1 ∧ (⟨r.1, (r.2 : Int), tE q.1 r.1 (ixN a r.2)⟩ : Spt).lv = (r.2 : Int) := ⟨rfl, rfl⟩
    generalize (⟨r.1, (r.2 : Int), tE q.1 r.1 (ixN a r.2)⟩ : Spt) = SP at *
    obtain ⟨r1, r2⟩ := r
    simp only at hst hsk hr2 cem clk x1 x11 hpt hs0
    obtain ⟨p, hp⟩ : ∃ p, tE q.1 r1 (ixN a r2) = p := ⟨_, rfl⟩
    have hpp : p.pp < 17592186044416 := by rw [← hp]; exact tE_pp _ _ _
    by_cases c1 : r2 = k + 1
    case neg =>
      have hnx := Lib.hid (hsk fun c => c1 c.1)
      have d1' : (((r2 : Nat) : Int) != (k : Int) + 1) = true := by simp; omega
      clear hst hsk cem clk x11 hpt hp c1 hI hs0
      go_wp2_with (refine wpList_load_blk (by rfl) 25 _ rfl rfl h1 Tryd.underlying25 rfl (by kernel_rfl) ?_)
      refine (cre _ hM1).mono ?_
      rintro e w5 ⟨rfl, hE⟩
      replace hM1 := hM1.ext hE
      (try replace h1 := h1.ext hE); (try replace h2 := h2.ext hE); (try replace h5 := h5.ext hE); (try replace h6 := h6.ext hE); (try replace h7 := h7.ext hE); (try replace k3 := k3.ext hE); (try replace k4 := k4.ext hE); (try replace hM := hM.ext hE); (try replace HE := Lib.hid (HE.out.trans hE)); (try replace r0 := r0.ext hE); (try replace r1 := r1.ext hE); (try replace r2 := r2.ext hE); (try replace r3 := r3.ext hE); (try replace r4 := r4.ext hE); (try replace r5 := r5.ext hE); (try replace r6 := r6.ext hE)
      clear hE cre
      have zz1 : Blk (w5.alloc (.cells #[.int .u64 0, .int .i64 0, .bool false, .bool false, .bool false, .bool false, .bool false, .bool false, .bool false, .bool false, .int .u64 0, .int .u64 0, .int .u64 0] 34)) w5.heap.size 34 #[.int .u64 0, .int .i64 0, .bool false, .bool false, .bool false, .bool false, .bool false, .bool false, .bool false, .bool false, .int .u64 0, .int .u64 0, .int .u64 0] := Blk.new _ _ _; have hE := ((Ext.refl w5).alloc (.cells #[.int .u64 0, .int .i64 0, .bool false, .bool false, .bool false, .bool false, .bool false, .bool false, .bool false, .bool false, .int .u64 0, .int .u64 0, .int .u64 0] 34)).row (Nat.le_refl w5.heap.size) (sptC SP); have hE0 := hE; (try replace h1 := h1.ext hE); (try replace h2 := h2.ext hE); (try replace h5 := h5.ext hE); (try replace h6 := h6.ext hE); (try replace h7 := h7.ext hE); (try replace k3 := k3.ext hE); (try replace k4 := k4.ext hE); (try replace hM := hM.ext hE); (try replace HE := Lib.hid (HE.out.trans hE)); (try replace r0 := r0.ext hE); (try replace r1 := r1.ext hE); (try replace r2 := r2.ext hE); (try replace r3 := r3.ext hE); (try replace r4 := r4.ext hE); (try replace r5 := r5.ext hE); (try replace r6 := r6.ext hE); clear hE; have h5 := zz1.row (sptC SP)
      replace hM1 := hM1.ext hE0
      clear hE0
      have y1 := (h5.cell 1).trans x1
      go_wp2_with (first | ((refine wpList_store_blk rfl 34 _ _ rfl rfl rfl zz1 (spt_info _) (by simp [sptC_size]) (sptC_one _) ?_); clear zz1; generalize (w5.alloc (.cells #[.int .u64 0, .int .i64 0, .bool false, .bool false, .bool false, .bool false, .bool false, .bool false, .bool false, .bool false, .int .u64 0, .int .u64 0, .int .u64 0] 34)).setRow w5.heap.size (sptC SP) = X at *) | (refine wpList_load_blk (by rfl) 25 _ rfl rfl h1 Tryd.underlying25 rfl (by kernel_rfl) ?_))
      go_roundw
      case rel => exact ⟨k + 1, q, B1, d1, by omega, by go_num, hnx, h1, h2, k3, k4, hM1, hO1, HE.out⟩
      case measure => simp [intOf]; omega
    subst c1
    rw [hp] at hst hsk cem clk x11 hpt
    have d1' : (((k + 1 : Nat) : Int) != (k : Int) + 1) = false := by simp
    go_wp2_with (refine wpList_load_blk (by rfl) 25 _ rfl rfl h1 Tryd.underlying25 rfl (by kernel_rfl) ?_)
    refine (cre _ hM1).mono ?_
    rintro e w5 ⟨rfl, hE⟩
    replace hM1 := hM1.ext hE
    (try replace h1 := h1.ext hE); (try replace h2 := h2.ext hE); (try replace h5 := h5.ext hE); (try replace h6 := h6.ext hE); (try replace h7 := h7.ext hE); (try replace k3 := k3.ext hE); (try replace k4 := k4.ext hE); (try replace hM := hM.ext hE); (try replace HE := Lib.hid (HE.out.trans hE)); (try replace r0 := r0.ext hE); (try replace r1 := r1.ext hE); (try replace r2 := r2.ext hE); (try replace r3 := r3.ext hE); (try replace r4 := r4.ext hE); (try replace r5 := r5.ext hE); (try replace r6 := r6.ext hE)
    clear hE cre
    have zz1 : Blk (w5.alloc (.cells #[.int .u64 0, .int .i64 0, .bool false, .bool false, .bool false, .bool false, .bool false, .bool false, .bool false, .bool false, .int .u64 0, .int .u64 0, .int .u64 0] 34)) w5.heap.size 34 #[.int .u64 0, .int .i64 0, .bool false, .bool false, .bool false, .bool false, .bool false, .bool false, .bool false, .bool false, .int .u64 0, .int .u64 0, .int .u64 0] := Blk.new _ _ _; have hE := ((Ext.refl w5).alloc (.cells #[.int .u64 0, .int .i64 0, .bool false, .bool false, .bool false, .bool false, .bool false, .bool false, .bool false, .bool false, .int .u64 0, .int .u64 0, .int .u64 0] 34)).row (Nat.le_refl w5.heap.size) (sptC SP); have hE0 := hE; (try replace h1 := h1.ext hE); (try replace h2 := h2.ext hE); (try replace h5 := h5.ext hE); (try replace h6 := h6.ext hE); (try replace h7 := h7.ext hE); (try replace k3 := k3.ext hE); (try replace k4 := k4.ext hE); (try replace hM := hM.ext hE); (try replace HE := Lib.hid (HE.out.trans hE)); (try replace r0 := r0.ext hE); (try replace r1 := r1.ext hE); (try replace r2 := r2.ext hE); (try replace r3 := r3.ext hE); (try replace r4 := r4.ext hE); (try replace r5 := r5.ext hE); (try replace r6 := r6.ext hE); clear hE; have h5 := zz1.row (sptC SP)
    replace hM1 := hM1.ext hE0
    clear hE0
    have y1 := (h5.cell 1).trans x1
    have y11 := (h5.cell 11).trans x11
    go_wp2_with (first | ((refine wpList_store_blk rfl 34 _ _ rfl rfl rfl zz1 (spt_info _) (by simp [sptC_size]) (sptC_one _) ?_); clear zz1; generalize (w5.alloc (.cells #[.int .u64 0, .int .i64 0, .bool false, .bool false, .bool false, .bool false, .bool false, .bool false, .bool false, .bool false, .int .u64 0, .int .u64 0, .int .u64 0] 34)).setRow w5.heap.size (sptC SP) = X at *) | (refine wpList_load_part (by rfl) 32 _ rfl rfl h5 (hpt) Tryd.underlying32 rfl (pt_info _) ?_))
    clear y1
    refine (clk _).mono ?_
    rintro e w6 ⟨rfl, hE⟩
    replace hM1 := hM1.ext hE
    (try replace h1 := h1.ext hE); (try replace h2 := h2.ext hE); (try replace h5 := h5.ext hE); (try replace h6 := h6.ext hE); (try replace h7 := h7.ext hE); (try replace k3 := k3.ext hE); (try replace k4 := k4.ext hE); (try replace hM := hM.ext hE); (try replace HE := Lib.hid (HE.out.trans hE)); (try replace r0 := r0.ext hE); (try replace r1 := r1.ext hE); (try replace r2 := r2.ext hE); (try replace r3 := r3.ext hE); (try replace r4 := r4.ext hE); (try replace r5 := r5.ext hE); (try replace r6 := r6.ext hE)
    clear hE clk
    cases hl : linkB p
    case false =>
      have hnx := Lib.hid (hsk fun c => by rw [hl] at c; exact absurd c.2.1 (by decide))
      clear hst hsk cem x1 x11 y11 hpt hp hI hs0 hl h5
      go_wp2
      go_roundw
      case rel => exact ⟨k + 1, q, B1, d1, by omega, by go_num, hnx, h1, h2, k3, k4, hM1, hO1, HE.out⟩
      case measure => simp [intOf]; omega
    have y11 := (h5.cell 11).trans x11
    go_wp2_with (refine wpList_load_blk (by rfl) 25 _ rfl rfl h1 Tryd.underlying25 rfl (by kernel_rfl) ?_)
    refine (cem _ hM1).mono ?_
    rintro e w7 ⟨rfl, hE⟩
    replace hM1 := hM1.ext hE
    (try replace h1 := h1.ext hE); (try replace h2 := h2.ext hE); (try replace h5 := h5.ext hE); (try replace h6 := h6.ext hE); (try replace h7 := h7.ext hE); (try replace k3 := k3.ext hE); (try replace k4 := k4.ext hE); (try replace hM := hM.ext hE); (try replace HE := Lib.hid (HE.out.trans hE)); (try replace r0 := r0.ext hE); (try replace r1 := r1.ext hE); (try replace r2 := r2.ext hE); (try replace r3 := r3.ext hE); (try replace r4 := r4.ext hE); (try replace r5 := r5.ext hE); (try replace r6 := r6.ext hE)
    clear hE cem
    cases hem : empB q.1 p.pp
    case false =>
      have hnx := Lib.hid (hsk fun c => by rw [hem] at c; exact absurd c.2.2 (by decide))
      clear hst hsk x1 x11 y11 hpt hp hI hs0 hl h5 hem
      go_wp2
      go_roundw
      case rel => exact ⟨k + 1, q, B1, d1, by omega, by go_num, hnx, h1, h2, k3, k4, hM1, hO1, HE.out⟩
      case measure => simp [intOf]; omega
    obtain ⟨hU, hnx⟩ := hst (by trivial) hl hem
    have Hnx := Lib.hid hnx
    have hUst := hU.st
    have hUlt := hU.lt
    have hUl := hU.len
    have hIl := hI.len
    have hq64 : q.2 < 18446744073709551616 := Nat.lt_of_lt_of_le hI.bits (Nat.pow_le_pow_right (by decide) hp2)
    have hclr : (clrF q.1 p.pp).length ≤ q.1.length := by unfold clrF; exact cutL_len (by omega) []
    have cbk := fun W (m : Mem W S B1 q.1 d1) => rback19_o (P := P) (M := M) (F := q.2) (f := p.pp) hp1 hp2 hq64 (by omega) W m
    have cwi := fun W B' d' (m : Mem W S B' (clrF q.1 p.pp) d') => rwith19_c (a := a) (p := getP 0) (x := SP) W m (by omega) hs0.1 hs0.2 (by omega) ha hUst (may_get (by decide))
    rw [put_get (show 0 < 18446744073709551616 by decide), show ptC (getP 0) = #[.bool false, .bool false, .bool false, .bool false, .bool false, .bool false, .bool false, .bool false, .int .u64 0, .int .u64 0, .int .u64 0] by rw [ptC_eq]; unfold getP; simp] at cwi
    unfold MdO at cwi
    have y11 := (h5.cell 11).trans x11
    clear hst hsk hnx hU hI hl hem hp hUst hUlt hs0 x1
    generalize clrF q.1 p.pp = K at *
    generalize stS K r1 (ixN a (k + 1)) 0 = K2 at *
    generalize freedN P M q.2 p.pp = G at *
    go_wp2_with (first | (refine wpList_load_blk (by rfl) 25 _ rfl rfl h1 Tryd.underlying25 rfl (by kernel_rfl) ?_) | (refine wpList_load_blk (by rfl) 27 _ rfl rfl h2 Tryd.underlying27 rfl (by kernel_rfl) ?_))
    refine (cbk _ hM1).mono ?_
    rintro e w8 ⟨B2, d2, rfl, hM2, hO2, hE⟩
    (try replace h1 := h1.ext hE); (try replace h2 := h2.ext hE); (try replace h5 := h5.ext hE); (try replace h6 := h6.ext hE); (try replace h7 := h7.ext hE); (try replace k3 := k3.ext hE); (try replace k4 := k4.ext hE); (try replace hM := hM.ext hE); (try replace HE := Lib.hid (HE.out.trans hE)); (try replace r0 := r0.ext hE); (try replace r1 := r1.ext hE); (try replace r2 := r2.ext hE); (try replace r3 := r3.ext hE); (try replace r4 := r4.ext hE); (try replace r5 := r5.ext hE); (try replace r6 := r6.ext hE)
    clear hE cbk hM1
    have l8 := k4.lt
    have h6 : Blk ((w8.alloc (.cells #[.int .u64 (S : Int), .slice B2 K.length d2] 25)).alloc (.cells #[.int .u64 (P : Int), .int .i64 (M : Int), .int .u64 (G : Int)] 27)) w8.heap.size 25 #[.int .u64 (S : Int), .slice B2 K.length d2] := (Blk.new w8 _ _).alloc _
    have h7 : Blk ((w8.alloc (.cells #[.int .u64 (S : Int), .slice B2 K.length d2] 25)).alloc (.cells #[.int .u64 (P : Int), .int .i64 (M : Int), .int .u64 (G : Int)] 27)) (w8.heap.size + 1) 27 #[.int .u64 (P : Int), .int .i64 (M : Int), .int .u64 (G : Int)] := blk_at (by simp)
    have hE := ((Ext.refl w8).alloc (.cells #[.int .u64 (S : Int), .slice B2 K.length d2] 25)).alloc (.cells #[.int .u64 (P : Int), .int .i64 (M : Int), .int .u64 (G : Int)] 27)
    replace hM2 := hM2.ext hE
    have h6b := h6
    have h7b := h7
    clear h6 h7
    (try replace h1 := h1.ext hE); (try replace h2 := h2.ext hE); (try replace h5 := h5.ext hE); (try replace h6 := h6.ext hE); (try replace h7 := h7.ext hE); (try replace k3 := k3.ext hE); (try replace k4 := k4.ext hE); (try replace hM := hM.ext hE); (try replace HE := Lib.hid (HE.out.trans hE)); (try replace r0 := r0.ext hE); (try replace r1 := r1.ext hE); (try replace r2 := r2.ext hE); (try replace r3 := r3.ext hE); (try replace r4 := r4.ext hE); (try replace r5 := r5.ext hE); (try replace r6 := r6.ext hE)
    clear hE
    have l9 := h7b.lt
    clear y11
    go_wp2_with (first | (refine wpList_load_blk (by rfl) 34 _ rfl rfl h5 Tryd.underlying34 rfl (by kernel_rfl) ?_) | (refine wpList_load_blk (by rfl) 25 _ rfl rfl h6b Tryd.underlying25 rfl (by kernel_rfl) ?_))
    generalize (w8.alloc (.cells #[.int .u64 (S : Int), .slice B2 K.length d2] 25)).alloc (.cells #[.int .u64 (P : Int), .int .i64 (M : Int), .int .u64 (G : Int)] 27) = w9 at *
    refine (cwi _ _ _ hM2).mono ?_
    rintro e w10 ⟨B3, d3, rfl, hM3, hO3, hE⟩
    have h7 := h7b.ext hE
    (try replace h1 := h1.ext hE); (try replace h2 := h2.ext hE); (try replace h5 := h5.ext hE); (try replace h6 := h6.ext hE); (try replace h7 := h7.ext hE); (try replace k3 := k3.ext hE); (try replace k4 := k4.ext hE); (try replace hM := hM.ext hE); (try replace HE := Lib.hid (HE.out.trans hE)); (try replace r0 := r0.ext hE); (try replace r1 := r1.ext hE); (try replace r2 := r2.ext hE); (try replace r3 := r3.ext hE); (try replace r4 := r4.ext hE); (try replace r5 := r5.ext hE); (try replace r6 := r6.ext hE)
    clear hE cwi hM2 h6b h7b h5
    have hO4 : Out w.heap.size (w.heap.size + 1 + 1 + 1 + 1) B3 K2.length := (hO3 w.heap.size).mono (by omega)
    have hgs : w8.heap.size + 1 ≠ w.heap.size ∧ w8.heap.size + 1 ≠ w.heap.size + 1 := ⟨by omega, by omega⟩
    have h2s := h2.apart (show w.heap.size + 1 ≠ w.heap.size by omega) #[.int .u64 (S : Int), .slice B3 K2.length d3]
    have h7s := h7.apart hgs.1 #[.int .u64 (S : Int), .slice B3 K2.length d3]
    have h1f := (h1.row #[.int .u64 (S : Int), .slice B3 K2.length d3]).apart (show w.heap.size ≠ w.heap.size + 1 by omega) #[.int .u64 (P : Int), .int .i64 (M : Int), .int .u64 (G : Int)]
    have h2f := h2s.row #[.int .u64 (P : Int), .int .i64 (M : Int), .int .u64 (G : Int)]
    have k3f := (k3.apart (show w.heap.size + 1 + 1 ≠ w.heap.size by omega) #[.int .u64 (S : Int), .slice B3 K2.length d3]).apart (show w.heap.size + 1 + 1 ≠ w.heap.size + 1 by omega) #[.int .u64 (P : Int), .int .i64 (M : Int), .int .u64 (G : Int)]
    have k4f := (k4.apart (show w.heap.size + 1 + 1 + 1 ≠ w.heap.size by omega) #[.int .u64 (S : Int), .slice B3 K2.length d3]).apart (show w.heap.size + 1 + 1 + 1 ≠ w.heap.size + 1 by omega) #[.int .u64 (P : Int), .int .i64 (M : Int), .int .u64 (G : Int)]
    have hMf := (hM3.row' hO4 (show w.heap.size ≤ w.heap.size by omega) (by omega) #[.int .u64 (S : Int), .slice B3 K2.length d3]).row' hO4 (show w.heap.size ≤ w.heap.size + 1 by omega) (by omega) #[.int .u64 (P : Int), .int .i64 (M : Int), .int .u64 (G : Int)]
    have HEf := Lib.hid ((HE.out.row (show w.heap.size ≤ w.heap.size by omega) #[.int .u64 (S : Int), .slice B3 K2.length d3]).row (show w.heap.size ≤ w.heap.size + 1 by omega) #[.int .u64 (P : Int), .int .i64 (M : Int), .int .u64 (G : Int)])
    have Hgs := Lib.hid hgs
    clear HE k3 k4 hgs l8 l9 h7 hM3 hO3 h2
    go_wp2_with (first | (refine wpList_store_blk rfl 25 _ _ rfl rfl rfl h1 (by kernel_rfl) (by rfl) (by simp [Value.oneCell']) ?_) | (refine wpList_load_blk (by rfl) 27 _ rfl rfl h7s Tryd.underlying27 rfl (by kernel_rfl) ?_) | (refine wpList_store_blk rfl 27 _ _ rfl rfl rfl h2s (by kernel_rfl) (by rfl) (by simp [Value.oneCell']) ?_))
    go_roundw
    case rel => exact ⟨k + 1, (K2, G), B3, d3, by omega, by go_num, Hnx, h1f, h2f, k3f, k4f, hMf, hO4, HEf.out⟩
    case measure => simp [intOf]; omega
end Go.Proofs.YticbjiddbjgikaaDoor
/- atlasref20: Down. -/
namespace Go.Proofs.YticbjiddbjgikaaDoor
open Go.ChangeShapes Go.WideShapes Go.ChangeAt Go.RowKit
set_option linter.unusedVariables false
set_option linter.unusedSimpArgs false
set_option maxRecDepth 10000
attribute [local irreducible] World.setRow World.alloc Blk
theorem results_ccct {fn : Func} {p q r u : Tmp} {tp tq tr : TypeId} {P : Program} (h : fn.results = #[.cell p tp, .cell q tq, .cell r tr, .tmp u]) (tmps : Array Value) (w : World) {g k m : Nat} {t y v : TypeId} {cs ds es : Array Value} {d e f : TypeDesc}
    (hp : tmps.getD p undef = .pointer (some ⟨g, 0, none⟩)) (hq : tmps.getD q undef = .pointer (some ⟨k, 0, none⟩)) (hr : tmps.getD r undef = .pointer (some ⟨m, 0, none⟩)) (hg : Blk w g t cs) (hk : Blk w k y ds) (hm : Blk w m v es)
    (hu : P.underlying tp = some d) (hd : d.isRow = true) (hi : (P.info? tp).map (·.size) = some cs.size) (hu2 : P.underlying tq = some e) (hd2 : e.isRow = true) (hi2 : (P.info? tq).map (·.size) = some ds.size)
    (hu3 : P.underlying tr = some f) (hd3 : f.isRow = true) (hi3 : (P.info? tr).map (·.size) = some es.size) :
    (results fn tmps).run P w = .ok (.tuple #[.agg cs, .agg ds, .agg es, tmps.getD u undef]) w := by
  have hp' : tmps[p]?.getD undef = .pointer (some ⟨g, 0, none⟩) := by simpa using hp
  have hq' : tmps[q]?.getD undef = .pointer (some ⟨k, 0, none⟩) := by simpa using hq
  have hr' : tmps[r]?.getD undef = .pointer (some ⟨m, 0, none⟩) := by simpa using hr
  simp only [results, h]
  simp [Sem.run_bind, Result.andThen, hp', hq', hr', asAddr, run_result hg hu hd hi, run_result hk hu2 hd2 hi2, run_result hm hu3 hd3 hi3]
theorem zs_cells : sptC ⟨0, 0, getP 0⟩ = #[.int .u64 0, .int .i64 0, .bool false, .bool false, .bool false, .bool false, .bool false, .bool false, .bool false, .bool false, .int .u64 0, .int .u64 0, .int .u64 0] := by rw [sptC_eq, ptC_eq]; unfold getP; simp
theorem zs_built : Tryd.prog.built 34 [] = some (sptC ⟨0, 0, getP 0⟩) := by rw [zs_cells]; kernel_rfl
end Go.Proofs.YticbjiddbjgikaaDoor
