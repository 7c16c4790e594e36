/- atlasref20: InPool, clean. -/
import Derived.Test.YticbjiddbjgikaaDoorGsplm
import Derived.Test.YticbjiddbjgikaaDoorGrtab
import Derived.Test.YticbjiddbjgikaaDoorGrtac
import Derived.Test.YticbjiddbjgikaaDoorGrpoo
namespace Go.Proofs.YticbjiddbjgikaaDoor
open Go.ChangeShapes Go.WideShapes Go.ChangeAt Go.RowKit
set_option linter.unusedVariables false
set_option linter.unusedSimpArgs false
set_option maxRecDepth 10000
/-- is an entry nothing, or not bad, and clean under it -/
def clnE (L : List (Nat × Nat)) (n t : Nat) (sub : Nat → Bool) (i : Nat) : Bool := (wordL L (512 * t + i) == 0) || (!badB (tE L t i) (n : Int) && (!linkB (tE L t i) || sub (tE L t i).pp))
def clnB (L : List (Nat × Nat)) : Nat → Nat → Bool
  | 0, t => (List.range 512).all fun i => clnE L 0 t (fun _ => true) i
  | n + 1, t => (List.range 512).all fun i => clnE L (n + 1) t (clnB L n) i
def clnI (L : List (Nat × Nat)) (n t i : Nat) : Bool := match n with | 0 => clnE L 0 t (fun _ => true) i | n + 1 => clnE L (n + 1) t (clnB L n) i
theorem cln_all (L : List (Nat × Nat)) (n t : Nat) : clnB L n t = (List.range 512).all (clnI L n t) := by cases n <;> rfl
theorem cln_nul {L : List (Nat × Nat)} {n t i : Nat} (h : wordL L (512 * t + i) = 0) : clnI L n t i = true := by
  cases n <;> (unfold clnI clnE; simp [h])
theorem cln_bad {L : List (Nat × Nat)} {n t i : Nat} (h : wordL L (512 * t + i) ≠ 0) (hb : badB (tE L t i) (n : Int) = true) : clnI L n t i = false := by
  have e : (wordL L (512 * t + i) == 0) = false := by simpa using h
  cases n <;> (simp only [clnI, clnE]; rw [e, hb]; rfl)
theorem cln_leaf {L : List (Nat × Nat)} {n t i : Nat} (hb : badB (tE L t i) (n : Int) = false) (hl : linkB (tE L t i) = false) : clnI L n t i = true := by
  cases n <;> (simp only [clnI, clnE]; rw [hb, hl]; simp)
theorem cln_go {L : List (Nat × Nat)} {n t i : Nat} (h : wordL L (512 * t + i) ≠ 0) (hb : badB (tE L t i) ((n + 1 : Nat) : Int) = false) (hl : linkB (tE L t i) = true) : clnI L (n + 1) t i = clnB L n (tE L t i).pp := by
  have e : (wordL L (512 * t + i) == 0) = false := by simpa using h
  simp only [clnI, clnE]
  rw [e, hb, hl]
  simp
theorem cln_cl {L : List (Nat × Nat)} : ∀ {n t : Nat}, clnB L n t = true → ∀ x ∈ tabs L n t, ∀ i, i < 512 → wordL L (512 * x.1 + i) ≠ 0 → badB (tE L x.1 i) (x.2 : Int) = false
  | 0, t, h, x, hx, i, hi, hw => by
    rw [tabs] at hx
    rw [List.mem_singleton.1 hx] at hw ⊢
    rw [cln_all, List.all_eq_true] at h
    have h1 := h i (List.mem_range.2 hi)
    cases hb : badB (tE L t i) ((0 : Nat) : Int)
    · rfl
    · rw [cln_bad hw hb] at h1; cases h1
  | n + 1, t, h, x, hx, i, hi, hw => by
    rw [cln_all, List.all_eq_true] at h
    rcases tabs_cases hx with rfl | ⟨k, hk, hg, hm⟩
    · have h1 := h i (List.mem_range.2 hi)
      cases hb : badB (tE L t i) ((n + 1 : Nat) : Int)
      · rfl
      · rw [cln_bad hw hb] at h1; cases h1
    · have h1 := h k (List.mem_range.2 hk)
      unfold goB at hg
      simp only [Bool.and_eq_true, Bool.not_eq_true'] at hg
      have hwk : wordL L (512 * t + k) ≠ 0 := fun e => by rw [nul_bad e] at hg; cases hg.2
      rw [cln_go hwk hg.2 hg.1] at h1
      exact cln_cl h1 x hm i hi hw
attribute [irreducible] clnE clnB clnI
attribute [local irreducible] World.setRow World.alloc Blk
theorem nul_eql {L : List (Nat × Nat)} {S t i : Nat} (h : RL (S / 8) L) : ∀ w, (binOp .eql 32 (.agg (ptC (tE L t i))) (.agg #[.bool false, .bool false, .bool false, .bool false, .bool false, .bool false, .bool false, .bool false, .int .u64 0, .int .u64 0, .int .u64 0])).run Tryd.prog w = .ok (.bool (decide (wordL L (512 * t + i) = 0))) w := fun w => by
  have e := eql_pte w (tE L t i) (getP 0)
  have z : ptC (getP 0) = #[.bool false, .bool false, .bool false, .bool false, .bool false, .bool false, .bool false, .bool false, .int .u64 0, .int .u64 0, .int .u64 0] := by rw [ptC_eq]; unfold getP; simp
  rw [z] at e
  rw [e]
  have g := get_inj (wordL_lt h (512 * t + i)) (show (0 : Nat) < 18446744073709551616 by decide)
  show Result.ok (Value.bool (decide (getP (wordL L (512 * t + i)) = getP 0))) w = _
  rw [g]
def ClC (S : Nat) (B : Option Addr) (L : List (Nat × Nat)) (d n : Nat) : Prop := ∀ (t : Nat) (w : World), TreeOk S L n t → Mem w S B L d →
    Calls Tryd.prog 54 #[.agg #[.int .u64 (S : Int), .slice B L.length d], .int .u64 (t : Int), .int .i64 (n : Int)] w fun r w' => r = .returned (.bool (clnB L n t)) ∧ Ext w w'
set_option maxHeartbeats 8000000 in
theorem rclean_step {S : Nat} {B : Option Addr} {L : List (Nat × Nat)} {d : Nat} (n : Nat) (hn : n ≤ 2) (ih : ∀ n', n = n' + 1 → ClC S B L d n') : ClC S B L d n := by
  intro t w hT hM
  have ht := hT.top
  have hSle := hM.ok.le
  have h1 := Blk.new w 25 #[.int .u64 (S : Int), .slice B L.length d]
  have HE := Lib.hid ((Ext.refl w).alloc (.cells #[.int .u64 (S : Int), .slice B L.length d] 25))
  have hMm : ∀ W : World, Ext w W → Mem W S B L d := fun W e => hM.ext e
  have hrl := hM.rl
  have hall := Lib.hid (cln_all L n t)
  go_enter Tryd.func54, Tryd.ntmps54
  go_wp2_with fail
  generalize w.alloc (.cells #[.int .u64 (S : Int), .slice B L.length d] 25) = W1 at *
  go_loopw [7] (fun i wr => ∃ k : Nat, k ≤ 512 ∧ i = .int .i64 k ∧ Hid (∀ i, i < k → clnI L n t i = true) ∧ Blk wr w.heap.size 25 #[.int .u64 (S : Int), .slice B L.length d] ∧ Ext w wr) (fun i _ => (512 - intOf i).toNat)
  case atStart => exact ⟨0, by omega, rfl, Lib.hid fun i hi => by omega, h1, HE.out⟩
  case round =>
    clear h1 HE
    obtain ⟨k, hk, rfl, hq, h1, hE⟩ := hrel
    have HE := Lib.hid hE
    clear hE
    by_cases hlt : k < 512
    case neg =>
      obtain rfl : k = 512 := by omega
      have hz : Hid (clnB L n t = true) := Lib.hid (by
        rw [hall.out, List.all_eq_true]
        exact fun i hi => hq.out i (List.mem_range.1 hi))
      clear h1 hlt hk
      go_wp2
      go_ret
      exact ⟨by rw [hz.out]; rfl, HE.out⟩
    have dk : decide ((k : Int) < 512) = true := by simp; omega
    have hno : clnI L n t k = false → Hid (clnB L n t = false) := fun h => Lib.hid (by
      rw [hall.out, List.all_eq_false]
      exact ⟨k, List.mem_range.2 hlt, by rw [h]; decide⟩)
    have hyes : clnI L n t k = true → Hid (∀ i, i < k + 1 → clnI L n t i = true) := fun h => Lib.hid fun i hi => by
      by_cases e : i = k
      · subst e; exact h
      · exact hq.out i (by omega)
    have cat := fun W (m : Mem W S B L d) => rat19_c m (t := t) (i := k) (by omega) hlt
    have cbd := fun W => rbad_c (tE L t k) (n : Int) (by omega) (by omega) W
    have clk := fun W => rlink_c (tE L t k) W
    have hcm := nul_eql (t := t) (i := k) hrl
    have c1 := cln_nul (L := L) (n := n) (t := t) (i := k)
    have c2 := cln_bad (L := L) (n := n) (t := t) (i := k)
    have c3 := cln_leaf (L := L) (n := n) (t := t) (i := k)
    have c4 : wordL L (512 * t + k) ≠ 0 → badB (tE L t k) (n : Int) = false → linkB (tE L t k) = true → ∃ m, n = m + 1 ∧ TreeOk S L m (tE L t k).pp ∧ clnI L n t k = clnB L m (tE L t k).pp := fun a b c => by
      cases n with
      | zero => rw [not_low b] at c; cases c
      | succ m => exact ⟨m, rfl, (hT.child hlt (by unfold goB; rw [c, b]; rfl)).1, cln_go a b c⟩
    have hx9 := ptC_pp (tE L t k)
    generalize tE L t k = p at *
    generalize wordL L (512 * t + k) = v at *
    go_wp2_with (refine wpList_load_blk (by rfl) 25 _ rfl rfl h1 Tryd.underlying25 rfl (by kernel_rfl) ?_)
    refine (cat _ (hMm _ HE.out)).mono ?_
    rintro e w5 ⟨rfl, hE⟩
    (try replace hb := hb.ext hE); (try replace hz := hz.ext hE); (try replace hm := hm.ext hE); (try replace h1 := h1.ext hE); (try replace h4 := h4.ext hE); (try replace hM := hM.ext hE); (try replace HE := Lib.hid (HE.out.trans hE)); (try replace r0 := r0.ext hE); (try replace r1 := r1.ext hE); (try replace r2 := r2.ext hE); (try replace r3 := r3.ext hE); (try replace r4 := r4.ext hE); (try replace r5 := r5.ext hE); (try replace r6 := r6.ext hE)
    clear hE cat
    have zz1 : Blk (w5.alloc (.cells #[.bool false, .bool false, .bool false, .bool false, .bool false, .bool false, .bool false, .bool false, .int .u64 0, .int .u64 0, .int .u64 0] 32)) w5.heap.size 32 #[.bool false, .bool false, .bool false, .bool false, .bool false, .bool false, .bool false, .bool false, .int .u64 0, .int .u64 0, .int .u64 0] := Blk.new _ _ _; have hE := ((Ext.refl w5).alloc (.cells #[.bool false, .bool false, .bool false, .bool false, .bool false, .bool false, .bool false, .bool false, .int .u64 0, .int .u64 0, .int .u64 0] 32)).row (Nat.le_refl w5.heap.size) (ptC p); (try replace hb := hb.ext hE); (try replace hz := hz.ext hE); (try replace hm := hm.ext hE); (try replace h1 := h1.ext hE); (try replace h4 := h4.ext hE); (try replace hM := hM.ext hE); (try replace HE := Lib.hid (HE.out.trans hE)); (try replace r0 := r0.ext hE); (try replace r1 := r1.ext hE); (try replace r2 := r2.ext hE); (try replace r3 := r3.ext hE); (try replace r4 := r4.ext hE); (try replace r5 := r5.ext hE); (try replace r6 := r6.ext hE); clear hE; have h4 := zz1.row (ptC p)
    by_cases hv : v = 0
    · have hy := hyes (c1 hv)
      have hcz : ∀ w, (binOp .eql 32 (.agg (ptC p)) (.agg #[.bool false, .bool false, .bool false, .bool false, .bool false, .bool false, .bool false, .bool false, .int .u64 0, .int .u64 0, .int .u64 0])).run Tryd.prog w = .ok (.bool true) w := fun w => by rw [hcm w, decide_eq_true hv]
      clear hcm hv c1 c2 c3 c4 hno hyes cbd clk hx9
      go_wp2_with (first | ((refine wpList_store_blk rfl 32 _ _ rfl rfl rfl zz1 (pt_info _) (by simp [ptC_size]) (ptC_one _) ?_); clear zz1; generalize (w5.alloc (.cells #[.bool false, .bool false, .bool false, .bool false, .bool false, .bool false, .bool false, .bool false, .int .u64 0, .int .u64 0, .int .u64 0] 32)).setRow w5.heap.size (ptC p) = X at *) | (refine wpList_load_blk (by rfl) 32 _ rfl rfl h4 Tryd.underlying32 rfl (by kernel_rfl) ?_) | (refine wpList_cmp (op := .eql) (by rfl) 32 rfl rfl rfl (pte_guard) (hcz) ?_))
      go_roundw
      case rel => exact ⟨k + 1, by omega, by go_num, hy, h1, HE.out⟩
      case measure => simp [intOf]; omega
    have hcz : ∀ w, (binOp .eql 32 (.agg (ptC p)) (.agg #[.bool false, .bool false, .bool false, .bool false, .bool false, .bool false, .bool false, .bool false, .int .u64 0, .int .u64 0, .int .u64 0])).run Tryd.prog w = .ok (.bool false) w := fun w => by rw [hcm w, decide_eq_false hv]
    go_wp2_with (first | ((refine wpList_store_blk rfl 32 _ _ rfl rfl rfl zz1 (pt_info _) (by simp [ptC_size]) (ptC_one _) ?_); clear zz1; generalize (w5.alloc (.cells #[.bool false, .bool false, .bool false, .bool false, .bool false, .bool false, .bool false, .bool false, .int .u64 0, .int .u64 0, .int .u64 0] 32)).setRow w5.heap.size (ptC p) = X at *) | (refine wpList_load_blk (by rfl) 32 _ rfl rfl h4 Tryd.underlying32 rfl (by kernel_rfl) ?_) | (refine wpList_cmp (op := .eql) (by rfl) 32 rfl rfl rfl (pte_guard) (hcz) ?_))
    refine (cbd _).mono ?_
    rintro e w6 ⟨rfl, hE⟩
    (try replace hb := hb.ext hE); (try replace hz := hz.ext hE); (try replace hm := hm.ext hE); (try replace h1 := h1.ext hE); (try replace h4 := h4.ext hE); (try replace hM := hM.ext hE); (try replace HE := Lib.hid (HE.out.trans hE)); (try replace r0 := r0.ext hE); (try replace r1 := r1.ext hE); (try replace r2 := r2.ext hE); (try replace r3 := r3.ext hE); (try replace r4 := r4.ext hE); (try replace r5 := r5.ext hE); (try replace r6 := r6.ext hE)
    clear hE cbd hcm hcz
    cases hb : badB p (n : Int)
    case true =>
      have hf := hno (c2 hv hb)
      clear hyes hno c1 c2 c3 c4 clk hx9 h4 hb hv hq
      go_wp2
      go_ret
      exact ⟨by rw [hf.out]; rfl, HE.out⟩
    go_wp2_with (refine wpList_load_blk (by rfl) 32 _ rfl rfl h4 Tryd.underlying32 rfl (by kernel_rfl) ?_)
    refine (clk _).mono ?_
    rintro e w7 ⟨rfl, hE⟩
    (try replace hb := hb.ext hE); (try replace hz := hz.ext hE); (try replace hm := hm.ext hE); (try replace h1 := h1.ext hE); (try replace h4 := h4.ext hE); (try replace hM := hM.ext hE); (try replace HE := Lib.hid (HE.out.trans hE)); (try replace r0 := r0.ext hE); (try replace r1 := r1.ext hE); (try replace r2 := r2.ext hE); (try replace r3 := r3.ext hE); (try replace r4 := r4.ext hE); (try replace r5 := r5.ext hE); (try replace r6 := r6.ext hE)
    clear hE clk
    cases hl : linkB p
    case false =>
      have hy := hyes (c3 hb hl)
      clear hyes hno c1 c2 c3 c4 hx9 h4 hb hv hq hl
      go_wp2
      go_roundw
      case rel => exact ⟨k + 1, by omega, by go_num, hy, h1, HE.out⟩
      case measure => simp [intOf]; omega
    obtain ⟨m, hm, hT3, he⟩ := c4 hv hb hl
    have crp := fun W (q : Mem W S B L d) => ih m hm p.pp W hT3 q
    have hs : (n : Int) - 1 = (m : Int) := by omega
    have x9 := (h4.cell 9).trans hx9
    rw [he] at hno hyes
    clear c1 c2 c3 c4 hb hv hl hm hT3 he ih
    generalize clnB L m p.pp = g at *
    go_wp2_with (refine wpList_load_blk (by rfl) 25 _ rfl rfl h1 Tryd.underlying25 rfl (by kernel_rfl) ?_)
    refine (crp _ (hMm _ HE.out)).mono ?_
    rintro e w8 ⟨rfl, hE⟩
    (try replace hb := hb.ext hE); (try replace hz := hz.ext hE); (try replace hm := hm.ext hE); (try replace h1 := h1.ext hE); (try replace h4 := h4.ext hE); (try replace hM := hM.ext hE); (try replace HE := Lib.hid (HE.out.trans hE)); (try replace r0 := r0.ext hE); (try replace r1 := r1.ext hE); (try replace r2 := r2.ext hE); (try replace r3 := r3.ext hE); (try replace r4 := r4.ext hE); (try replace r5 := r5.ext hE); (try replace r6 := r6.ext hE)
    clear hE crp hs x9 h4
    cases g
    case false =>
      have hf := hno rfl
      clear hyes hno hq
      go_wp2
      go_ret
      exact ⟨by rw [hf.out]; rfl, HE.out⟩
    have hy := hyes rfl
    clear hyes hno hq
    go_wp2
    go_roundw
    case rel => exact ⟨k + 1, by omega, by go_num, hy, h1, HE.out⟩
    case measure => simp [intOf]; omega
theorem rclean_c {S : Nat} {B : Option Addr} {L : List (Nat × Nat)} {d : Nat} : ∀ n, n ≤ 2 → ClC S B L d n
  | 0, h => rclean_step 0 h fun n' e => by cases e
  | n + 1, h => rclean_step (n + 1) h fun n' e => by
    cases e
    exact rclean_c n (by omega)
end Go.Proofs.YticbjiddbjgikaaDoor
/- atlasref20: Fits. -/
namespace Go.Proofs.YticbjiddbjgikaaDoor
open Go.ChangeShapes Go.WideShapes Go.ChangeAt Go.RowKit
set_option linter.unusedVariables false
set_option linter.unusedSimpArgs false
set_option maxRecDepth 10000
/-- what a memory, a pool and a tree are that fit -/
structure FitIs (S P : Nat) (M : Int) (F : Nat) (L : List (Nat × Nat)) (t : Nat) (l : Int) (m n : Nat) : Prop where
  em : M = m
  el : l = n
  n2 : n ≤ 2
  size : SizeOk S
  pool : PoolK S P m
  bits : F < 2 ^ m
  fit : Fit S P m F n t L
attribute [local irreducible] World.setRow World.alloc Blk
def inB (P M f : Nat) : Bool := decide (P ≤ f) && decide (f < P + M)
set_option maxHeartbeats 1000000 in
theorem rinp_c (P M F f : Nat) (hP : P ≤ 268435456) (hM : M ≤ 64) (hf : f < 18446744073709551616) (w : World) :
    Calls Tryd.prog 55 #[(.agg #[.int .u64 (P : Int), .int .i64 (M : Int), .int .u64 (F : Int)]), .int .u64 (f : Int)] w fun e w' => e = .returned (.bool (inB P M f)) ∧ Ext w w' := by
  have HE := Lib.hid ((Ext.refl w).alloc (.cells #[.int .u64 (P : Int), .int .i64 (M : Int), .int .u64 (F : Int)] 27))
  obtain ⟨b0, b1, b2⟩ := (Blk.new w 27 #[.int .u64 (P : Int), .int .i64 (M : Int), .int .u64 (F : Int)]).c3
  by_cases h1 : P ≤ f
  · have d1 : decide (P ≤ f) = true := by simp; omega
    by_cases h2 : f < P + M
    · have d2 : decide ((f : Int) < (P : Int) + (M : Int)) = true := by simp; omega
      have H : Hid (inB P M f = true) := Lib.hid (by unfold inB; simp; omega)
      clear h1 h2
      go_enter Tryd.func55, Tryd.ntmps55
      go_wp2
      go_ret
      exact ⟨by rw [H.out]; rfl, HE.out⟩
    · have d2 : decide ((f : Int) < (P : Int) + (M : Int)) = false := by simp; omega
      have H : Hid (inB P M f = false) := Lib.hid (by unfold inB; simp; omega)
      clear h1 h2
      go_enter Tryd.func55, Tryd.ntmps55
      go_wp2
      go_ret
      exact ⟨by rw [H.out]; rfl, HE.out⟩
  · have d1 : decide (P ≤ f) = false := by simp; omega
    have H : Hid (inB P M f = false) := Lib.hid (by unfold inB; simp; omega)
    clear h1
    go_enter Tryd.func55, Tryd.ntmps55
    go_wp2
    go_ret
    exact ⟨by rw [H.out]; rfl, HE.out⟩
theorem frs_inp {P M F n t : Nat} {L : List (Nat × Nat)} (h : ∀ i, 1 ≤ i → i < (frs L n t).length → isB P M F ((frs L n t).getD i 0) = true) : ∀ x ∈ tabs L n t, x.1 ≠ t → isB P M F x.1 = true := fun x hx hne => by
  obtain ⟨r, e⟩ := tabs_head L n t
  have ef : frs L n t = t :: r.map (·.1) := by unfold frs; rw [e]; rfl
  have hm : x.1 ∈ frs L n t := by unfold frs; exact List.mem_map.2 ⟨x, hx, rfl⟩
  obtain ⟨i, hi, ei⟩ := List.getElem_of_mem hm
  have h1 : i ≠ 0 := fun q => by
    subst q
    apply hne
    rw [← ei]
    simp [ef]
  have := h i (by omega) hi
  rwa [getD_at hi, ei] at this
theorem fit_is {S P m F n t : Nat} {L : List (Nat × Nat)} (h2 : decide (RightM S L) = true) (hL : IsCells L) (h3 : rightB P (m : Int) F = true) (h4 : (P + m) * 4096 ≤ S) (hn : n ≤ 2) (h5 : rightM S L n t [] = true) (h6 : ∀ x ∈ tabs L n t, x.1 ≠ t → isB P m F x.1 = true) (h7 : clnB L n t = true) (h8 : inB P m t = true → isB P m F t = true) :
    FitIs S P m F L t n m n := by
  have hr := of_decide_eq_true h2
  have hs : SizeOk S := by have := hr; unfold RightM at this; exact this.1
  unfold rightB at h3
  simp only [Bool.and_eq_true, decide_eq_true_eq, Int.toNat_natCast] at h3
  exact ⟨rfl, rfl, hn, hs, ⟨h3.1.2, by omega, h4, by have := hs.mod8; have := hs.1; omega, hs.le⟩, h3.2, hr.rl hL, right_tree.1 h5, cln_cl h7, h6, fun a b => h8 (by unfold inB; simp; omega)⟩
set_option maxHeartbeats 8000000 in
theorem rfits_c (S P : Nat) (M : Int) (F : Nat) (B : Option Addr) (L : List (Nat × Nat)) (d t : Nat) (l : Int) (hS : S < 18446744073709551616) (hL : IsCells L) (ht : t < 18446744073709551616) (hP : P < 18446744073709551616) (hF : F < 18446744073709551616) (hm0 : -9223372036854775808 ≤ M) (hm1 : M ≤ 9223372036854775807) (hlen : L.length ≤ 36000) (w : World) (hm : RowL w B L d) :
    Calls Tryd.prog 25 #[.agg #[.int .u64 (S : Int), .slice B L.length d], (.agg #[.int .u64 (P : Int), .int .i64 (M : Int), .int .u64 (F : Int)]), .int .u64 (t : Int), .int .i64 l] w fun r w' => ∃ b, r = .returned (.bool b) ∧ (b = true → ∃ m n, FitIs S P M F L t l m n) ∧ Ext w w' := by
  have h2 := Blk.new w 25 #[.int .u64 (S : Int), .slice B L.length d]
  have h3 := Blk.new (w.alloc (.cells #[.int .u64 (S : Int), .slice B L.length d] 25)) 27 #[.int .u64 (P : Int), .int .i64 M, .int .u64 (F : Int)]
  have HE := Lib.hid (((Ext.refl w).alloc (.cells #[.int .u64 (S : Int), .slice B L.length d] 25)).alloc (.cells #[.int .u64 (P : Int), .int .i64 M, .int .u64 (F : Int)] 27))
  replace h2 := h2.alloc (.cells #[.int .u64 (P : Int), .int .i64 M, .int .u64 (F : Int)] 27)
  rw [World.size_alloc] at h3
  have crm := fun W k => rright_c S B L d hS hL (by omega) W k
  have hmr : ∀ W : World, Ext w W → ClB W B L := fun W e => (hm.ext e).1
  have cpr := fun W => prright_c P F M hP hF hm0 hm1 W
  cases hr : decide (RightM S L)
  case false =>
    rw [hr] at crm
    clear hr
    go_enter Tryd.func25, Tryd.ntmps25
    go_wp2_with (refine wpList_load_blk (by rfl) 25 _ rfl rfl h2 Tryd.underlying25 rfl (by kernel_rfl) ?_)
    refine (crm _ (hmr _ HE.out)).mono ?_
    rintro e w2 ⟨rfl, hE⟩
    replace HE := Lib.hid (HE.out.trans hE)
    clear hE crm h2
    go_wp2
    go_ret
    exact ⟨false, rfl, (fun h => by cases h), HE.out⟩
  cases hp : rightB P M F
  case false =>
    rw [hr] at crm
    rw [hp] at cpr
    clear hr hp
    go_enter Tryd.func25, Tryd.ntmps25
    go_wp2_with (refine wpList_load_blk (by rfl) 25 _ rfl rfl h2 Tryd.underlying25 rfl (by kernel_rfl) ?_)
    refine (crm _ (hmr _ HE.out)).mono ?_
    rintro e w2 ⟨rfl, hE⟩
    (try replace hb := hb.ext hE); (try replace hc := hc.ext hE); (try replace hz := hz.ext hE); (try replace hm := hm.ext hE); (try replace h1 := h1.ext hE); (try replace h2 := h2.ext hE); (try replace h3 := h3.ext hE); (try replace h6 := h6.ext hE); (try replace h7 := h7.ext hE); (try replace h8 := h8.ext hE); (try replace HE := Lib.hid (HE.out.trans hE)); (try replace r0 := r0.ext hE); (try replace r1 := r1.ext hE); (try replace r2 := r2.ext hE); (try replace r3 := r3.ext hE); (try replace r4 := r4.ext hE); (try replace r5 := r5.ext hE); (try replace r6 := r6.ext hE)
    clear hE crm
    go_wp2_with (refine wpList_load_blk (by rfl) 27 _ rfl rfl h3 Tryd.underlying27 rfl (by kernel_rfl) ?_)
    refine (cpr _).mono ?_
    rintro e w3 ⟨rfl, hE⟩
    replace HE := Lib.hid (HE.out.trans hE)
    clear hE cpr h2 h3
    go_wp2
    go_ret
    exact ⟨false, rfl, (fun h => by cases h), HE.out⟩
  have hp' := hp
  unfold rightB at hp'
  simp only [Bool.and_eq_true, decide_eq_true_eq] at hp'
  obtain ⟨⟨⟨hm00, hm64⟩, hP2⟩, -⟩ := hp'
  obtain ⟨m, rfl⟩ := Int.eq_ofNat_of_zero_le hm00
  have hm64' : m ≤ 64 := by omega
  clear hm00 hm64 hm0 hm1
  have hS0 := of_decide_eq_true hr
  have hso : SizeOk S := by have := hS0; unfold RightM at this; exact this.1
  have hMw : Mem w S B L d := ⟨hm, hS0.rl hL, hso, hlen⟩
  have hMm : ∀ W : World, Ext w W → Mem W S B L d := fun W e => hMw.ext e
  by_cases hz : (P + m) * 4096 ≤ S
  case neg =>
    have dz : decide ((S : Int) < ((P : Int) + (m : Int)) * 4096) = true := by simp; omega
    rw [hr] at crm
    rw [hp] at cpr
    clear hr hp hS0 hso hMw hMm hz
    go_enter Tryd.func25, Tryd.ntmps25
    go_wp2_with (refine wpList_load_blk (by rfl) 25 _ rfl rfl h2 Tryd.underlying25 rfl (by kernel_rfl) ?_)
    refine (crm _ (hmr _ HE.out)).mono ?_
    rintro e w2 ⟨rfl, hE⟩
    (try replace hb := hb.ext hE); (try replace hc := hc.ext hE); (try replace hz := hz.ext hE); (try replace hm := hm.ext hE); (try replace h1 := h1.ext hE); (try replace h2 := h2.ext hE); (try replace h3 := h3.ext hE); (try replace h6 := h6.ext hE); (try replace h7 := h7.ext hE); (try replace h8 := h8.ext hE); (try replace HE := Lib.hid (HE.out.trans hE)); (try replace r0 := r0.ext hE); (try replace r1 := r1.ext hE); (try replace r2 := r2.ext hE); (try replace r3 := r3.ext hE); (try replace r4 := r4.ext hE); (try replace r5 := r5.ext hE); (try replace r6 := r6.ext hE)
    clear hE crm
    go_wp2_with (refine wpList_load_blk (by rfl) 27 _ rfl rfl h3 Tryd.underlying27 rfl (by kernel_rfl) ?_)
    refine (cpr _).mono ?_
    rintro e w3 ⟨rfl, hE⟩
    (try replace hb := hb.ext hE); (try replace hc := hc.ext hE); (try replace hz := hz.ext hE); (try replace hm := hm.ext hE); (try replace h1 := h1.ext hE); (try replace h2 := h2.ext hE); (try replace h3 := h3.ext hE); (try replace h6 := h6.ext hE); (try replace h7 := h7.ext hE); (try replace h8 := h8.ext hE); (try replace HE := Lib.hid (HE.out.trans hE)); (try replace r0 := r0.ext hE); (try replace r1 := r1.ext hE); (try replace r2 := r2.ext hE); (try replace r3 := r3.ext hE); (try replace r4 := r4.ext hE); (try replace r5 := r5.ext hE); (try replace r6 := r6.ext hE)
    clear hE cpr
    obtain ⟨b0, b1, b2⟩ := h3.c3
    have x0 : _ = some (Value.int .u64 (S : Int)) := h2.cell 0
    go_wp2
    go_ret
    exact ⟨false, rfl, (fun h => by cases h), HE.out⟩
  have dz : decide ((S : Int) < ((P : Int) + (m : Int)) * 4096) = false := by simp; omega
  by_cases hl : 0 ≤ l ∧ l ≤ 2
  case neg =>
    have crt := fun W => rright19_out (S := S) (B := B) (L := L) (d := d) (t := t) hl W
    rw [hr] at crm
    rw [hp] at cpr
    clear hr hp hS0 hso hMw hMm hz hl
    go_enter Tryd.func25, Tryd.ntmps25
    go_wp2_with (refine wpList_load_blk (by rfl) 25 _ rfl rfl h2 Tryd.underlying25 rfl (by kernel_rfl) ?_)
    refine (crm _ (hmr _ HE.out)).mono ?_
    rintro e w2 ⟨rfl, hE⟩
    (try replace hb := hb.ext hE); (try replace hc := hc.ext hE); (try replace hz := hz.ext hE); (try replace hm := hm.ext hE); (try replace h1 := h1.ext hE); (try replace h2 := h2.ext hE); (try replace h3 := h3.ext hE); (try replace h6 := h6.ext hE); (try replace h7 := h7.ext hE); (try replace h8 := h8.ext hE); (try replace HE := Lib.hid (HE.out.trans hE)); (try replace r0 := r0.ext hE); (try replace r1 := r1.ext hE); (try replace r2 := r2.ext hE); (try replace r3 := r3.ext hE); (try replace r4 := r4.ext hE); (try replace r5 := r5.ext hE); (try replace r6 := r6.ext hE)
    clear hE crm
    go_wp2_with (refine wpList_load_blk (by rfl) 27 _ rfl rfl h3 Tryd.underlying27 rfl (by kernel_rfl) ?_)
    refine (cpr _).mono ?_
    rintro e w3 ⟨rfl, hE⟩
    (try replace hb := hb.ext hE); (try replace hc := hc.ext hE); (try replace hz := hz.ext hE); (try replace hm := hm.ext hE); (try replace h1 := h1.ext hE); (try replace h2 := h2.ext hE); (try replace h3 := h3.ext hE); (try replace h6 := h6.ext hE); (try replace h7 := h7.ext hE); (try replace h8 := h8.ext hE); (try replace HE := Lib.hid (HE.out.trans hE)); (try replace r0 := r0.ext hE); (try replace r1 := r1.ext hE); (try replace r2 := r2.ext hE); (try replace r3 := r3.ext hE); (try replace r4 := r4.ext hE); (try replace r5 := r5.ext hE); (try replace r6 := r6.ext hE)
    clear hE cpr
    obtain ⟨b0, b1, b2⟩ := h3.c3
    have x0 : _ = some (Value.int .u64 (S : Int)) := h2.cell 0
    go_wp2_with (refine wpList_load_blk (by rfl) 25 _ rfl rfl h2 Tryd.underlying25 rfl (by kernel_rfl) ?_)
    refine (crt _).mono ?_
    rintro e w4 ⟨rfl, hE⟩
    replace HE := Lib.hid (HE.out.trans hE)
    clear hE crt h2 h3 b0 b1 b2 x0
    go_wp2
    go_ret
    exact ⟨false, rfl, (fun h => by cases h), HE.out⟩
  obtain ⟨n, rfl⟩ := Int.eq_ofNat_of_zero_le hl.1
  have hn2 : n ≤ 2 := by omega
  clear hl
  have crt := fun W m => rright19_c (S := S) (B := B) (L := L) (d := d) hso.2 n hn2 t none [] 0 W ht List.nodup_nil (by simp) m (RowV.nil W)
  unfold RtT at crt
  cases hR : rightM S L n t []
  case false =>
    rw [hR] at crt
    rw [hr] at crm
    rw [hp] at cpr
    clear hr hp hS0 hso hMw hz hR
    go_enter Tryd.func25, Tryd.ntmps25
    go_wp2_with (refine wpList_load_blk (by rfl) 25 _ rfl rfl h2 Tryd.underlying25 rfl (by kernel_rfl) ?_)
    refine (crm _ (hmr _ HE.out)).mono ?_
    rintro e w2 ⟨rfl, hE⟩
    (try replace hb := hb.ext hE); (try replace hc := hc.ext hE); (try replace hz := hz.ext hE); (try replace hm := hm.ext hE); (try replace h1 := h1.ext hE); (try replace h2 := h2.ext hE); (try replace h3 := h3.ext hE); (try replace h6 := h6.ext hE); (try replace h7 := h7.ext hE); (try replace h8 := h8.ext hE); (try replace HE := Lib.hid (HE.out.trans hE)); (try replace r0 := r0.ext hE); (try replace r1 := r1.ext hE); (try replace r2 := r2.ext hE); (try replace r3 := r3.ext hE); (try replace r4 := r4.ext hE); (try replace r5 := r5.ext hE); (try replace r6 := r6.ext hE)
    clear hE crm
    go_wp2_with (refine wpList_load_blk (by rfl) 27 _ rfl rfl h3 Tryd.underlying27 rfl (by kernel_rfl) ?_)
    refine (cpr _).mono ?_
    rintro e w3 ⟨rfl, hE⟩
    (try replace hb := hb.ext hE); (try replace hc := hc.ext hE); (try replace hz := hz.ext hE); (try replace hm := hm.ext hE); (try replace h1 := h1.ext hE); (try replace h2 := h2.ext hE); (try replace h3 := h3.ext hE); (try replace h6 := h6.ext hE); (try replace h7 := h7.ext hE); (try replace h8 := h8.ext hE); (try replace HE := Lib.hid (HE.out.trans hE)); (try replace r0 := r0.ext hE); (try replace r1 := r1.ext hE); (try replace r2 := r2.ext hE); (try replace r3 := r3.ext hE); (try replace r4 := r4.ext hE); (try replace r5 := r5.ext hE); (try replace r6 := r6.ext hE)
    clear hE cpr
    obtain ⟨b0, b1, b2⟩ := h3.c3
    have x0 : _ = some (Value.int .u64 (S : Int)) := h2.cell 0
    go_wp2_with (refine wpList_load_blk (by rfl) 25 _ rfl rfl h2 Tryd.underlying25 rfl (by kernel_rfl) ?_)
    refine (crt _ (hMm _ HE.out)).mono ?_
    rintro e w4 ⟨A5, c5, M5, rfl, -, -, hE⟩
    replace HE := Lib.hid (HE.out.trans hE)
    clear hE crt h2 h3 b0 b1 b2 x0
    go_wp2
    go_ret
    exact ⟨false, rfl, (fun h => by cases h), HE.out⟩
  have hT : TreeOk S L n t := right_tree.1 hR
  have hfit := fun h6 h7 h8 => Lib.hid (fit_is hr hL hp hz hn2 hR h6 h7 h8)
  have ccl := fun W (q : Mem W S B L d) => rclean_c (S := S) (B := B) (L := L) (d := d) n hn2 t W hT q
  have cip := fun W => rinp_c P m F t hP2 hm64' ht W
  have cis := fun W => ris_c P m F t hP2 hm64' hF ht W
  have cit := fun W f (hf : f < 18446744073709551616) => ris_c P m F f hP2 hm64' hF hf W
  have hfp := frs_inp (P := P) (M := m) (F := F) (n := n) (t := t) (L := L)
  have hmem : ∀ f ∈ frs L n t, f < 18446744073709551616 := fun f hf => by
    unfold frs at hf
    obtain ⟨x, hx, rfl⟩ := List.mem_map.1 hf
    have := hT.lt x hx
    omega
  have hge : ∀ i, i < (frs L n t).length → (frs L n t).getD i 0 < 18446744073709551616 := fun i hi => hmem _ (by rw [getD_at hi]; exact List.getElem_mem hi)
  rw [hR] at crt
  rw [hr] at crm
  rw [hp] at cpr
  clear hr hp hS0 hso hMw hz hR hmem hT
  generalize frs L n t = Fr at *
  generalize clnB L n t = cl at *
  generalize inB P m t = ib at *
  generalize isB P m F t = isb at *
  skip
  go_enter Tryd.func25, Tryd.ntmps25
  go_wp2_with (refine wpList_load_blk (by rfl) 25 _ rfl rfl h2 Tryd.underlying25 rfl (by kernel_rfl) ?_)
  refine (crm _ (hmr _ HE.out)).mono ?_
  rintro e w2 ⟨rfl, hE⟩
  (try replace hb := hb.ext hE); (try replace hc := hc.ext hE); (try replace hz := hz.ext hE); (try replace hm := hm.ext hE); (try replace h1 := h1.ext hE); (try replace h2 := h2.ext hE); (try replace h3 := h3.ext hE); (try replace h6 := h6.ext hE); (try replace h7 := h7.ext hE); (try replace h8 := h8.ext hE); (try replace HE := Lib.hid (HE.out.trans hE)); (try replace r0 := r0.ext hE); (try replace r1 := r1.ext hE); (try replace r2 := r2.ext hE); (try replace r3 := r3.ext hE); (try replace r4 := r4.ext hE); (try replace r5 := r5.ext hE); (try replace r6 := r6.ext hE)
  clear hE crm
  go_wp2_with (refine wpList_load_blk (by rfl) 27 _ rfl rfl h3 Tryd.underlying27 rfl (by kernel_rfl) ?_)
  refine (cpr _).mono ?_
  rintro e w3 ⟨rfl, hE⟩
  (try replace hb := hb.ext hE); (try replace hc := hc.ext hE); (try replace hz := hz.ext hE); (try replace hm := hm.ext hE); (try replace h1 := h1.ext hE); (try replace h2 := h2.ext hE); (try replace h3 := h3.ext hE); (try replace h6 := h6.ext hE); (try replace h7 := h7.ext hE); (try replace h8 := h8.ext hE); (try replace HE := Lib.hid (HE.out.trans hE)); (try replace r0 := r0.ext hE); (try replace r1 := r1.ext hE); (try replace r2 := r2.ext hE); (try replace r3 := r3.ext hE); (try replace r4 := r4.ext hE); (try replace r5 := r5.ext hE); (try replace r6 := r6.ext hE)
  clear hE cpr
  obtain ⟨b0, b1, b2⟩ := h3.c3
  have x0 : _ = some (Value.int .u64 (S : Int)) := h2.cell 0
  go_wp2_with (refine wpList_load_blk (by rfl) 25 _ rfl rfl h2 Tryd.underlying25 rfl (by kernel_rfl) ?_)
  refine (crt _ (hMm _ HE.out)).mono ?_
  rintro e w4 ⟨A5, c5, M5, rfl, hM5, r5, hE⟩
  replace hM5 : M5 = Fr := hM5 (by trivial)
  subst hM5
  (try replace hb := hb.ext hE); (try replace hc := hc.ext hE); (try replace hz := hz.ext hE); (try replace hm := hm.ext hE); (try replace h1 := h1.ext hE); (try replace h2 := h2.ext hE); (try replace h3 := h3.ext hE); (try replace h6 := h6.ext hE); (try replace h7 := h7.ext hE); (try replace h8 := h8.ext hE); (try replace HE := Lib.hid (HE.out.trans hE)); (try replace r0 := r0.ext hE); (try replace r1 := r1.ext hE); (try replace r2 := r2.ext hE); (try replace r3 := r3.ext hE); (try replace r4 := r4.ext hE); (try replace r5 := r5.ext hE); (try replace r6 := r6.ext hE)
  clear hE crt
  go_wp2_with fail
  clear b0 b1 b2 x0 dz
  have hb : M5.length ≤ 9223372036854775807 := by have := r5.2.2; omega
  go_loopw [11] (fun i wr => ∃ j : Nat, 1 ≤ j ∧ (j = 1 ∨ j ≤ M5.length) ∧ i = .int .i64 j ∧ Hid (∀ i, 1 ≤ i → i < j → isB P m F (M5.getD i 0) = true) ∧ Blk wr w.heap.size 25 #[.int .u64 (S : Int), .slice B L.length d] ∧ Blk wr (w.heap.size + 1) 27 #[.int .u64 (P : Int), .int .i64 (m : Int), .int .u64 (F : Int)] ∧ RowV KU wr A5 M5 c5 ∧ Ext w wr) (fun i _ => (M5.length - intOf i).toNat)
  case atStart => exact ⟨1, by omega, .inl rfl, rfl, Lib.hid fun i hi hi2 => by omega, h2, h3, r5, HE.out⟩
  case round =>
    clear h2 h3 r5 HE
    obtain ⟨j, hj1, hj, rfl, hq, h2, h3, r5, hE⟩ := hrel
    have HE := Lib.hid hE
    clear hE
    by_cases hlt : j < M5.length
    · have c1 := fun W => cit W (M5.getD j 0) (hge j hlt)
      obtain ⟨bb, off, rfl, -, -⟩ := r5.1 (by omega)
      obtain ⟨hc, -⟩ := ku_at r5 hlt
      cases he : isB P m F (M5.getD j 0)
      case false =>
        rw [he] at c1
        clear he hq hfit hfp
        generalize M5.getD j 0 = mj at *
        go_wp2_with fail
        (try replace hb := Blk.drew hb); (try replace hc := Blk.drew hc); (try replace hz := Blk.drew hz); (try replace hm := Blk.drew hm); (try replace h1 := Blk.drew h1); (try replace h2 := Blk.drew h2); (try replace h3 := Blk.drew h3); (try replace h6 := Blk.drew h6); (try replace h7 := Blk.drew h7); (try replace h8 := Blk.drew h8); replace HE := Lib.hid HE.out.drew
        have hcd := ext_cell ((Ext.refl wr).drew) hc
        replace r5 := r5.ext ((Ext.refl wr).drew)
        refine wp_region_seq [(0, false), (1, false), (2, false), (3, false), (4, false), (5, true), (6, false)] Ext (by kernel_rfl) (by kernel_rfl) Ext.refl (fun _ _ _ => Ext.trans) ?_; simp only [List.map, nth_z, nth_s]
        refine seq_load rfl rfl (fun x hx => Blk.ext (h3) hx) rfl Tryd.underlying27 (by kernel_rfl) (by rfl) ?_; intro K hK; simp only [Act.put, List.setIfInBounds_toArray, List.set_cons_zero, List.set_cons_succ]; refine hK _ ?_; clear hK K
        (repeat (first | (refine seq_skip (by rfl) ?_; intro K hK; simp only [Act.put, List.setIfInBounds_toArray, List.set_cons_zero, List.set_cons_succ]; refine hK _ ?_; clear hK K) | (refine seq_skipc (by rfl) ?_; intro K hK; simp only [Act.put, List.setIfInBounds_toArray, List.set_cons_zero, List.set_cons_succ]; refine hK _ ?_; clear hK K) | (refine seq_read (by rfl) (by rfl) ?_; intro K hK; go_big_quiet_op; first | go_big_quiet_on | (refine ⟨_, fun _ _ => rfl, ?_⟩; go_big_quiet_on))))
        refine seq_value (.int .u64 (mj : Int)) (by rfl) (fun x hx => by have hq := ext_cell hx (hcd); simp [go_sem, execOp, Act.eval, hq]) ?_; intro K hK; simp only [Act.put, List.setIfInBounds_toArray, List.set_cons_zero, List.set_cons_succ]; refine hK _ ?_; clear hK K
        (repeat (first | (refine seq_skip (by rfl) ?_; intro K hK; simp only [Act.put, List.setIfInBounds_toArray, List.set_cons_zero, List.set_cons_succ]; refine hK _ ?_; clear hK K) | (refine seq_skipc (by rfl) ?_; intro K hK; simp only [Act.put, List.setIfInBounds_toArray, List.set_cons_zero, List.set_cons_succ]; refine hK _ ?_; clear hK K) | (refine seq_read (by rfl) (by rfl) ?_; intro K hK; go_big_quiet_op; first | go_big_quiet_on | (refine ⟨_, fun _ _ => rfl, ?_⟩; go_big_quiet_on))))
        refine seq_call (c1 _) rfl Tryd.func53 (by kernel_rfl) (by kernel_rfl) (by rfl) (by rfl) ?_; intro K hK; rintro e w' ⟨rfl, hE⟩; refine ⟨_, rfl, hE, ?_⟩; simp only [Act.put, List.setIfInBounds_toArray, List.set_cons_zero, List.set_cons_succ]; refine hK _ _ ?_; clear hK K
        replace HE := Lib.hid (HE.out.trans hE)
        clear hE h2 h3 hc hcd
        (repeat (first | (refine seq_skip (by rfl) ?_; intro K hK; simp only [Act.put, List.setIfInBounds_toArray, List.set_cons_zero, List.set_cons_succ]; refine hK _ ?_; clear hK K) | (refine seq_skipc (by rfl) ?_; intro K hK; simp only [Act.put, List.setIfInBounds_toArray, List.set_cons_zero, List.set_cons_succ]; refine hK _ ?_; clear hK K) | (refine seq_read (by rfl) (by rfl) ?_; intro K hK; go_big_quiet_op; first | go_big_quiet_on | (refine ⟨_, fun _ _ => rfl, ?_⟩; go_big_quiet_on))))
        refine seq_done ?_
        go_wp2
        go_ret
        exact ⟨false, rfl, (fun h => by cases h), HE.out⟩
      have hq1 : Hid (∀ i, 1 ≤ i → i < j + 1 → isB P m F (M5.getD i 0) = true) := Lib.hid fun i h1 hi => by
        by_cases e : i = j
        · subst e; exact he
        · exact hq.out i h1 (by omega)
      rw [he] at c1
      clear he hq hfit hfp
      generalize M5.getD j 0 = mj at *
      go_wp2_with fail
      (try replace hb := Blk.drew hb); (try replace hc := Blk.drew hc); (try replace hz := Blk.drew hz); (try replace hm := Blk.drew hm); (try replace h1 := Blk.drew h1); (try replace h2 := Blk.drew h2); (try replace h3 := Blk.drew h3); (try replace h6 := Blk.drew h6); (try replace h7 := Blk.drew h7); (try replace h8 := Blk.drew h8); replace HE := Lib.hid HE.out.drew
      have hcd := ext_cell ((Ext.refl wr).drew) hc
      replace r5 := r5.ext ((Ext.refl wr).drew)
      refine wp_region_seq [(0, false), (1, false), (2, false), (3, false), (4, false), (5, true), (6, false)] Ext (by kernel_rfl) (by kernel_rfl) Ext.refl (fun _ _ _ => Ext.trans) ?_; simp only [List.map, nth_z, nth_s]
      refine seq_load rfl rfl (fun x hx => Blk.ext (h3) hx) rfl Tryd.underlying27 (by kernel_rfl) (by rfl) ?_; intro K hK; simp only [Act.put, List.setIfInBounds_toArray, List.set_cons_zero, List.set_cons_succ]; refine hK _ ?_; clear hK K
      (repeat (first | (refine seq_skip (by rfl) ?_; intro K hK; simp only [Act.put, List.setIfInBounds_toArray, List.set_cons_zero, List.set_cons_succ]; refine hK _ ?_; clear hK K) | (refine seq_skipc (by rfl) ?_; intro K hK; simp only [Act.put, List.setIfInBounds_toArray, List.set_cons_zero, List.set_cons_succ]; refine hK _ ?_; clear hK K) | (refine seq_read (by rfl) (by rfl) ?_; intro K hK; go_big_quiet_op; first | go_big_quiet_on | (refine ⟨_, fun _ _ => rfl, ?_⟩; go_big_quiet_on))))
      refine seq_value (.int .u64 (mj : Int)) (by rfl) (fun x hx => by have hq := ext_cell hx (hcd); simp [go_sem, execOp, Act.eval, hq]) ?_; intro K hK; simp only [Act.put, List.setIfInBounds_toArray, List.set_cons_zero, List.set_cons_succ]; refine hK _ ?_; clear hK K
      (repeat (first | (refine seq_skip (by rfl) ?_; intro K hK; simp only [Act.put, List.setIfInBounds_toArray, List.set_cons_zero, List.set_cons_succ]; refine hK _ ?_; clear hK K) | (refine seq_skipc (by rfl) ?_; intro K hK; simp only [Act.put, List.setIfInBounds_toArray, List.set_cons_zero, List.set_cons_succ]; refine hK _ ?_; clear hK K) | (refine seq_read (by rfl) (by rfl) ?_; intro K hK; go_big_quiet_op; first | go_big_quiet_on | (refine ⟨_, fun _ _ => rfl, ?_⟩; go_big_quiet_on))))
      refine seq_call (c1 _) rfl Tryd.func53 (by kernel_rfl) (by kernel_rfl) (by rfl) (by rfl) ?_; intro K hK; rintro e w' ⟨rfl, hE⟩; refine ⟨_, rfl, hE, ?_⟩; simp only [Act.put, List.setIfInBounds_toArray, List.set_cons_zero, List.set_cons_succ]; refine hK _ _ ?_; clear hK K
      (try replace hb := hb.ext hE); (try replace hc := hc.ext hE); (try replace hz := hz.ext hE); (try replace hm := hm.ext hE); (try replace h1 := h1.ext hE); (try replace h2 := h2.ext hE); (try replace h3 := h3.ext hE); (try replace h6 := h6.ext hE); (try replace h7 := h7.ext hE); (try replace h8 := h8.ext hE); (try replace HE := Lib.hid (HE.out.trans hE)); (try replace r0 := r0.ext hE); (try replace r1 := r1.ext hE); (try replace r2 := r2.ext hE); (try replace r3 := r3.ext hE); (try replace r4 := r4.ext hE); (try replace r5 := r5.ext hE); (try replace r6 := r6.ext hE)
      clear hE hc hcd
      (repeat (first | (refine seq_skip (by rfl) ?_; intro K hK; simp only [Act.put, List.setIfInBounds_toArray, List.set_cons_zero, List.set_cons_succ]; refine hK _ ?_; clear hK K) | (refine seq_skipc (by rfl) ?_; intro K hK; simp only [Act.put, List.setIfInBounds_toArray, List.set_cons_zero, List.set_cons_succ]; refine hK _ ?_; clear hK K) | (refine seq_read (by rfl) (by rfl) ?_; intro K hK; go_big_quiet_op; first | go_big_quiet_on | (refine ⟨_, fun _ _ => rfl, ?_⟩; go_big_quiet_on))))
      refine seq_done ?_
      go_wp2
      go_roundw
      case rel => exact ⟨j + 1, by omega, .inr hlt, by go_num, hq1, h2, h3, r5, HE.out⟩
      case measure => simp [intOf]; omega
    have h6 := hfp fun i h1 h2 => hq.out i h1 (by omega)
    have hf7 := hfit h6
    clear hq hfp hfit hge h6 r5
    go_wp2_with (refine wpList_load_blk (by rfl) 25 _ rfl rfl h2 Tryd.underlying25 rfl (by kernel_rfl) ?_)
    refine (ccl _ (hMm _ HE.out)).mono ?_
    rintro e w5 ⟨rfl, hE⟩
    (try replace hb := hb.ext hE); (try replace hc := hc.ext hE); (try replace hz := hz.ext hE); (try replace hm := hm.ext hE); (try replace h1 := h1.ext hE); (try replace h2 := h2.ext hE); (try replace h3 := h3.ext hE); (try replace h6 := h6.ext hE); (try replace h7 := h7.ext hE); (try replace h8 := h8.ext hE); (try replace HE := Lib.hid (HE.out.trans hE)); (try replace r0 := r0.ext hE); (try replace r1 := r1.ext hE); (try replace r2 := r2.ext hE); (try replace r3 := r3.ext hE); (try replace r4 := r4.ext hE); (try replace r5 := r5.ext hE); (try replace r6 := r6.ext hE)
    clear hE ccl
    cases cl
    case false =>
      clear h2 h3
      go_wp2
      go_ret
      exact ⟨false, rfl, (fun h => by cases h), HE.out⟩
    go_wp2_with (refine wpList_load_blk (by rfl) 27 _ rfl rfl h3 Tryd.underlying27 rfl (by kernel_rfl) ?_)
    refine (cip _).mono ?_
    rintro e w6 ⟨rfl, hE⟩
    (try replace hb := hb.ext hE); (try replace hc := hc.ext hE); (try replace hz := hz.ext hE); (try replace hm := hm.ext hE); (try replace h1 := h1.ext hE); (try replace h2 := h2.ext hE); (try replace h3 := h3.ext hE); (try replace h6 := h6.ext hE); (try replace h7 := h7.ext hE); (try replace h8 := h8.ext hE); (try replace HE := Lib.hid (HE.out.trans hE)); (try replace r0 := r0.ext hE); (try replace r1 := r1.ext hE); (try replace r2 := r2.ext hE); (try replace r3 := r3.ext hE); (try replace r4 := r4.ext hE); (try replace r5 := r5.ext hE); (try replace r6 := r6.ext hE)
    clear hE cip
    cases ib
    case false =>
      have hz := hf7 (by trivial) (fun q => by cases q)
      clear h2 h3 hf7
      go_wp2
      go_ret
      exact ⟨true, rfl, (fun h => ⟨m, n, hz.out⟩), HE.out⟩
    go_wp2_with (refine wpList_load_blk (by rfl) 27 _ rfl rfl h3 Tryd.underlying27 rfl (by kernel_rfl) ?_)
    refine (cis _).mono ?_
    rintro e w7 ⟨rfl, hE⟩
    replace HE := Lib.hid (HE.out.trans hE)
    clear hE cis h2 h3
    cases isb
    case false =>
      clear hf7
      go_wp2
      go_ret
      exact ⟨false, rfl, (fun h => by cases h), HE.out⟩
    have hz := hf7 (by trivial) (fun q => rfl)
    clear hf7
    go_wp2
    go_ret
    exact ⟨true, rfl, (fun h => ⟨m, n, hz.out⟩), HE.out⟩
end Go.Proofs.YticbjiddbjgikaaDoor
