/- Package split: Prune: a table by table, the lowest first, by deferred calls. -/
import Derived.Test.YticbjiddbjgikaaDoorGcspl
import Derived.Test.YticbjiddbjgikaaDoorGsplm
import Derived.Defers
import Derived.LoopN
import Derived.Test.YticbjiddbjgikaaDoorGctab
namespace Go.Proofs.YticbjiddbjgikaaDoor
open Go.ChangeShapes Go.WideShapes Go.ChangeAt Go.RowKit
set_option linter.unusedVariables false
set_option linter.unusedSimpArgs false
set_option maxRecDepth 10000
attribute [local irreducible] World.setRow World.alloc Blk
/-- loose, whether the table is empty or not -/
theorem loose_c {S P M n t : Nat} {L : List (Nat × Nat)} {q : List (Nat × Nat) × Nat} {B1 : Option Addr} {d1 a w0 : Nat} (hpk : PoolK S P M) (hn : n ≤ 2) (h : PrAt S P M a n t w0 L q) (hw : w0 + 1 ≤ n) (hlo : (reachT L a 0 n t).2 < w0 + 1) (ha : a < 18446744073709551616) (hlen : q.1.length ≤ 35000) (w : World) (hM : Mem w S B1 q.1 d1) :
    Calls Tryd.prog 40 #[.agg #[.int .u64 (S : Int), .slice B1 q.1.length d1], .agg #[.int .u64 (P : Int), .int .i64 (M : Int), .int .u64 (q.2 : Int)], .agg (sptC (spotW L (w0 + 1) n t a)), .int .u64 (a : Int)] w fun r w' => ∃ q2 B2 d2, q2 = prOne P M (reachT L a (w0 + 1) n t).1 (ixN a (w0 + 1)) (tE L (reachT L a (w0 + 1) n t).1 (ixN a (w0 + 1))).pp q ∧ r = .returned (.tuple #[.agg #[.int .u64 (S : Int), .slice B2 q2.1.length d2], .agg #[.int .u64 (P : Int), .int .i64 (M : Int), .int .u64 (q2.2 : Int)]]) ∧
      Mem w' S B2 q2.1 d2 ∧ (∀ lo hi, hi ≤ w.heap.size → Out lo hi B1 q.1.length → Out lo hi B2 q2.1.length) ∧ Ext w w' := by
  obtain ⟨u2, ug⟩ := reach_up (K := L) (a := a) (n := n) (t := t) hw hlo
  have hre := h.re (w0 + 1) (by omega) hw
  have hen := h.en (w0 + 1) (by omega) hw
  have hsp : spotW L (w0 + 1) n t a = ⟨(reachT L a (w0 + 1) n t).1, ((w0 + 1 : Nat) : Int), tE L (reachT L a (w0 + 1) n t).1 (ixN a (w0 + 1))⟩ := by unfold spotW; rw [u2]
  have hr2 : (reachT q.1 a (w0 + 1) n t).2 = w0 + 1 := by rw [hre, u2]
  have hs := reach_pair hr2
  rw [hre] at hs
  have hst := h.is_.fit.tree.lt _ hs
  simp only at hst
  have hgo : goB q.1 (reachT L a (w0 + 1) n t).1 (ixN a (w0 + 1)) (w0 + 1) = true := by unfold goB; rw [hen]; exact ug
  have hfl := tabs_next (ixN_lt a (w0 + 1)) hgo (by rw [hen]) hs
  have hft := h.is_.fit.tree.lt _ hfl
  simp only at hft
  rw [hsp]
  by_cases c : empB q.1 (tE L (reachT L a (w0 + 1) n t).1 (ixN a (w0 + 1))).pp = true
  · have un := pr_one (a := a) hpk h.is_ hr2 (by rw [hre, hen]; exact go_link ug) (by rw [hre, hen]; exact c)
    rw [hre, hen] at un
    have hF2 : q.2 < 18446744073709551616 := Nat.lt_of_lt_of_le h.is_.bits (Nat.pow_le_pow_right (by decide) hpk.m)
    refine (loose_yes hpk hF2 rfl un.is_ un.ne ha hst hft (by omega) hlen c w hM).mono ?_
    rintro r w' ⟨B', d', rfl, hm, hO, hE⟩
    refine ⟨(stS (clrF q.1 (tE L (reachT L a (w0 + 1) n t).1 (ixN a (w0 + 1))).pp) (reachT L a (w0 + 1) n t).1 (ixN a (w0 + 1)) 0, freedN P M q.2 (tE L (reachT L a (w0 + 1) n t).1 (ixN a (w0 + 1))).pp), B', d', ?_, rfl, hm, fun lo hi hh _ => (hO lo).mono hh, hE⟩
    unfold prOne
    rw [if_pos c]
  · refine (loose_no (SP := ⟨(reachT L a (w0 + 1) n t).1, ((w0 + 1 : Nat) : Int), tE L (reachT L a (w0 + 1) n t).1 (ixN a (w0 + 1))⟩) rfl hft (by simpa using c) w hM).mono ?_
    rintro r w' ⟨rfl, hE⟩
    refine ⟨q, B1, d1, ?_, rfl, hM.ext hE, fun lo hi hh ho => ho, hE⟩
    unfold prOne
    rw [if_neg c]
/-- what is so ahead of a deferred call: the boxes gn, gq of the results, ga of the address -/
structure PrW (S P M gn ga : Nat) (a : Nat) (q : List (Nat × Nat) × Nat) (B1 : Option Addr) (d1 : Nat) (w : World) : Prop where
  m : Blk w gn 25 #[.int .u64 (S : Int), .slice B1 q.1.length d1]
  p : Blk w (gn + 1) 27 #[.int .u64 (P : Int), .int .i64 (M : Int), .int .u64 (q.2 : Int)]
  a : Blk w ga 22 #[.int .u64 (a : Int)]
  me : Mem w S B1 q.1 d1
  o : Out gn (gn + 1 + 1) B1 q.1.length
set_option maxHeartbeats 8000000 in
theorem prune_d {S P M n t gn ga gs w0 : Nat} {L : List (Nat × Nat)} {q : List (Nat × Nat) × Nat} {B1 : Option Addr} {d1 a : Nat} (u : FrameMode) (hpk : PoolK S P M) (hn : n ≤ 2) (h : PrAt S P M a n t w0 L q) (hw : w0 + 1 ≤ n) (hlo : (reachT L a 0 n t).2 < w0 + 1) (ha : a < 18446744073709551616) (hlen : q.1.length ≤ 35000) (hga : ga < gn) (hgs : gn + 1 < gs) (w : World) (h1 : PrW S P M gn ga a q B1 d1 w) (h8 : Blk w gs 34 (sptC (spotW L (w0 + 1) n t a))) :
    CallsD Tryd.prog 39 #[.pointer (some ⟨gn, 0, none⟩), .pointer (some ⟨gn + 1, 0, none⟩), .pointer (some ⟨gs, 0, none⟩), .pointer (some ⟨ga, 0, none⟩)] u w fun e u' w' => u' = u ∧ (e = .returned (.tuple #[]) ∧ (∃ B2 d2, PrW S P M gn ga a (prOne P M (reachT L a (w0 + 1) n t).1 (ixN a (w0 + 1)) (tE L (reachT L a (w0 + 1) n t).1 (ixN a (w0 + 1))).pp q) B2 d2 w') ∧
      (∀ x, Ext x w → x.heap.size ≤ gn → Ext x w') ∧ (∀ g t cs, gn + 1 < g → Blk w g t cs → Blk w' g t cs)) := by
  obtain ⟨h6, h7, h3, r0, hO⟩ := h1
  have clo := fun W (m : Mem W S B1 q.1 d1) => loose_c hpk hn h hw hlo ha hlen W m
  have y3 := h3.cell 0
  generalize sptC (spotW L (w0 + 1) n t a) = SP at *
  generalize hq : prOne P M (reachT L a (w0 + 1) n t).1 (ixN a (w0 + 1)) (tE L (reachT L a (w0 + 1) n t).1 (ixN a (w0 + 1))).pp q = Q at *
  clear hq h hpk
  go_enter_d Tryd.func39, Tryd.ntmps39
  go_wp2_with (first | (refine wpList_load_blk (by rfl) 25 _ rfl rfl h6 Tryd.underlying25 rfl (by kernel_rfl) ?_) | (refine wpList_load_blk (by rfl) 27 _ rfl rfl h7 Tryd.underlying27 rfl (by kernel_rfl) ?_) | (refine wpList_load_blk (by rfl) 34 _ rfl rfl h8 Tryd.underlying34 rfl (by kernel_rfl) ?_))
  refine (clo _ r0).mono ?_
  rintro e w7 ⟨q2, B2, d2, hq2, rfl, hM2, hO2, hE⟩
  subst hq2
  have l7 := h7.lt
  have hO3 := hO2 gn (gn + 1 + 1) (by omega) hO
  have hEx := Lib.hid hE
  (try replace hb := hb.ext hE); (try replace h1 := h1.ext hE); (try replace h3 := h3.ext hE); (try replace h6 := h6.ext hE); (try replace h7 := h7.ext hE); (try replace h8 := h8.ext hE); (try replace hO := hO.ext hE); (try replace HE := Lib.hid (HE.out.trans hE)); (try replace r0 := r0.ext hE); (try replace r1 := r1.ext hE); (try replace r2 := r2.ext hE); (try replace r3 := r3.ext hE); (try replace r4 := r4.ext hE); (try replace r5 := r5.ext hE); (try replace r6 := r6.ext hE)
  clear hE hO2 clo y3
  have h7s := h7.apart (show gn + 1 ≠ gn by omega) #[.int .u64 (S : Int), .slice B2 q2.1.length d2]
  have f6 := (h6.row #[.int .u64 (S : Int), .slice B2 q2.1.length d2]).apart (show gn ≠ gn + 1 by omega) #[.int .u64 (P : Int), .int .i64 (M : Int), .int .u64 (q2.2 : Int)]
  have f7 := h7s.row #[.int .u64 (P : Int), .int .i64 (M : Int), .int .u64 (q2.2 : Int)]
  have f3 := (h3.apart (show ga ≠ gn by omega) #[.int .u64 (S : Int), .slice B2 q2.1.length d2]).apart (show ga ≠ gn + 1 by omega) #[.int .u64 (P : Int), .int .i64 (M : Int), .int .u64 (q2.2 : Int)]
  have rf := (hM2.row' hO3 (Nat.le_refl gn) (by omega) #[.int .u64 (S : Int), .slice B2 q2.1.length d2]).row' hO3 (show gn ≤ gn + 1 by omega) (by omega) #[.int .u64 (P : Int), .int .i64 (M : Int), .int .u64 (q2.2 : Int)]
  go_wp2_with (first | (refine wpList_store_blk rfl 25 _ _ rfl rfl rfl h6 (by kernel_rfl) (by rfl) (by simp [Value.oneCell']) ?_) | (refine wpList_store_blk rfl 27 _ _ rfl rfl rfl h7s (by kernel_rfl) (by rfl) (by simp [Value.oneCell']) ?_))
  go_end0
  exact ⟨rfl, ⟨B2, d2, f6, f7, f3, rf, hO3⟩, fun x hx hs => ((hx.trans hEx.out).row (by omega) _).row (by omega) _, fun g t cs hg hb => ((hb.ext hEx.out).apart (show g ≠ gn by omega) _).apart (show g ≠ gn + 1 by omega) _⟩
end Go.Proofs.YticbjiddbjgikaaDoor
/- Package split: Prune. -/
namespace Go.Proofs.YticbjiddbjgikaaDoor
open Go.ChangeShapes Go.WideShapes Go.ChangeAt Go.RowKit
set_option linter.unusedVariables false
set_option linter.unusedSimpArgs false
set_option maxRecDepth 10000
attribute [local irreducible] World.setRow World.alloc Blk
theorem field_lv (s : Spt) (w : World) : (Instr.field 34 (.agg (sptC s)) 1).run Tryd.prog w = .ok (.int .i64 s.lv) w := by
  simp [Instr.field, Tryd.underlying34, go_sem, asAgg, sptC_lv s]
/-- the boxes of both results stay as they are -/
def Same2 (g : Nat) (c e : Array Value) (x y : World) : Prop := Gap g (g + 1 + 1) x y ∧ (Blk x g 25 c → Blk y g 25 c) ∧ (Blk x (g + 1) 27 e → Blk y (g + 1) 27 e)
theorem Same2.refl (g : Nat) (c e : Array Value) (x : World) : Same2 g c e x x := ⟨Gap.refl _ _ _, id, id⟩
theorem Same2.trans {g : Nat} {c e : Array Value} {x y z : World} (h : Same2 g c e x y) (k : Same2 g c e y z) : Same2 g c e x z := ⟨h.1.trans k.1, fun q => k.2.1 (h.2.1 q), fun q => k.2.2 (h.2.2 q)⟩
set_option maxHeartbeats 16000000 in
theorem prune20_c {S P M F n t a : Nat} {L : List (Nat × Nat)} {B : Option Addr} {d : Nat} (hfit : Fit S P M F n t L) (hpk : PoolK S P M) (hF : F < 2 ^ M) (hfew : L.length ≤ 33000) (hn : n ≤ 2) (ha : a < 18446744073709551616) (w : World) (hM : Mem w S B L d) (hT : Tab w ∧ Siz w) :
    Calls Tryd.prog 19 #[.agg #[.int .u64 (S : Int), .slice B L.length d], .agg #[.int .u64 (P : Int), .int .i64 (M : Int), .int .u64 (F : Int)], .int .u64 (t : Int), .int .i64 (n : Int), .int .u64 (a : Int)] w fun r w' => ∃ B' d', r = .returned (.tuple #[.agg #[.int .u64 (S : Int), .slice B' (prS P M a n t n L F).1.length d'], .agg #[.int .u64 (P : Int), .int .i64 (M : Int), .int .u64 ((prS P M a n t n L F).2 : Int)]]) ∧ Mem w' S B' (prS P M a n t n L F).1 d' ∧ Ext w w' := by
  have ht := hfit.tree.top
  have hlo := tabs_le (reach_mem L a 0 n t)
  have hbot := pr_low (a := a) hfit (reachT L a 0 n t).2 (Nat.le_refl _)
  have hstep := fun v (hv : v + 1 ≤ n) (hl : (reachT L a 0 n t).2 < v + 1) q (hq : prS P M a n t v L F = q) (p : PrAt S P M a n t v L q) => PrAt.step hpk hfit hF hv hl hq p
  have hst0 := fun v => PrAt.start (a := a) hfit hF v
  have cre := fun k (hk : k ≤ 2) W (m : Mem W S B L d) (q : Siz W) => treach_c (k := k) ha hn hk W hfit.tree m q
  have cd := fun v (q : List (Nat × Nat) × Nat) B1 d1 gs u (h : PrAt S P M a n t v L q) (hv : v + 1 ≤ n) (hl : (reachT L a 0 n t).2 < v + 1) (hq : q.1.length ≤ 35000) (hg : w.heap.size + 1 + 1 + 1 + 1 < gs) W (p : PrW S P M (w.heap.size + 1 + 1 + 1) (w.heap.size + 1 + 1) a q B1 d1 W) h8 => prune_d (gs := gs) u hpk hn h hv hl ha hq (by omega) hg W p h8
  have hlv : ∀ W, (Instr.field 34 (.agg (sptC (spotW L 0 n t a))) 1).run Tryd.prog W = .ok (.int .i64 ((reachT L a 0 n t).2 : Int)) W := fun W => by
    have := field_lv (spotW L 0 n t a) W
    rw [this]
    unfold spotW
    rfl
  obtain ⟨D, hD⟩ : ∃ D, prS P M a n t n L F = D := ⟨_, rfl⟩
  rw [hD]
  replace hD := Lib.hid hD
  obtain ⟨lo, hl0⟩ : ∃ lo, (reachT L a 0 n t).2 = lo := ⟨_, rfl⟩
  rw [hl0] at hlo hbot hlv
  rw [hl0] at hstep cd
  clear hl0
  have hmf : ∀ (fn : Fn) (first cap : Array Value) (w : World), (Instr.makeFunc fn first cap).run Tryd.prog w = .ok (.func fn first cap) w := fun _ _ _ _ => rfl
  have hMo := fun W (e : Ext w W) => hM.ext e
  have hOm := hM.out (w.heap.size + 1 + 1 + 1 + 1 + 1)
  have h1 : Blk (((((w.alloc (.cells #[.int .u64 (S : Int), .slice B L.length d] 25)).alloc (.cells #[.int .u64 (P : Int), .int .i64 (M : Int), .int .u64 (F : Int)] 27)).alloc (.cells #[.int .u64 (a : Int)] 22)).alloc (.cells #[.int .u64 0, .slice none 0 0] 25)).alloc (.cells #[.int .u64 0, .int .i64 0, .int .u64 0] 27)) (w.heap.size) 25 #[.int .u64 (S : Int), .slice B L.length d] := ((((Blk.new w _ _).alloc _).alloc _).alloc _).alloc _
  have h2 : Blk (((((w.alloc (.cells #[.int .u64 (S : Int), .slice B L.length d] 25)).alloc (.cells #[.int .u64 (P : Int), .int .i64 (M : Int), .int .u64 (F : Int)] 27)).alloc (.cells #[.int .u64 (a : Int)] 22)).alloc (.cells #[.int .u64 0, .slice none 0 0] 25)).alloc (.cells #[.int .u64 0, .int .i64 0, .int .u64 0] 27)) (w.heap.size + 1) 27 #[.int .u64 (P : Int), .int .i64 (M : Int), .int .u64 (F : Int)] := (((blk_at (by simp)).alloc _).alloc _).alloc _
  have h3 : Blk (((((w.alloc (.cells #[.int .u64 (S : Int), .slice B L.length d] 25)).alloc (.cells #[.int .u64 (P : Int), .int .i64 (M : Int), .int .u64 (F : Int)] 27)).alloc (.cells #[.int .u64 (a : Int)] 22)).alloc (.cells #[.int .u64 0, .slice none 0 0] 25)).alloc (.cells #[.int .u64 0, .int .i64 0, .int .u64 0] 27)) (w.heap.size + 1 + 1) 22 #[.int .u64 (a : Int)] := ((blk_at (by simp)).alloc _).alloc _
  have k3 : Blk (((((w.alloc (.cells #[.int .u64 (S : Int), .slice B L.length d] 25)).alloc (.cells #[.int .u64 (P : Int), .int .i64 (M : Int), .int .u64 (F : Int)] 27)).alloc (.cells #[.int .u64 (a : Int)] 22)).alloc (.cells #[.int .u64 0, .slice none 0 0] 25)).alloc (.cells #[.int .u64 0, .int .i64 0, .int .u64 0] 27)) (w.heap.size + 1 + 1 + 1) 25 #[.int .u64 0, .slice none 0 0] := (blk_at (by simp)).alloc _
  have k4 : Blk (((((w.alloc (.cells #[.int .u64 (S : Int), .slice B L.length d] 25)).alloc (.cells #[.int .u64 (P : Int), .int .i64 (M : Int), .int .u64 (F : Int)] 27)).alloc (.cells #[.int .u64 (a : Int)] 22)).alloc (.cells #[.int .u64 0, .slice none 0 0] 25)).alloc (.cells #[.int .u64 0, .int .i64 0, .int .u64 0] 27)) (w.heap.size + 1 + 1 + 1 + 1) 27 #[.int .u64 0, .int .i64 0, .int .u64 0] := blk_at (by simp)
  have HE := Lib.hid (show Ext w (((((w.alloc (.cells #[.int .u64 (S : Int), .slice B L.length d] 25)).alloc (.cells #[.int .u64 (P : Int), .int .i64 (M : Int), .int .u64 (F : Int)] 27)).alloc (.cells #[.int .u64 (a : Int)] 22)).alloc (.cells #[.int .u64 0, .slice none 0 0] 25)).alloc (.cells #[.int .u64 0, .int .i64 0, .int .u64 0] 27)) from (((((Ext.refl w).alloc _).alloc _).alloc _).alloc _).alloc _)
  go_enter_defers Tryd.func19, Tryd.ntmps19
  go_upto_region 1 with fail
  generalize (((((w.alloc (.cells #[.int .u64 (S : Int), .slice B L.length d] 25)).alloc (.cells #[.int .u64 (P : Int), .int .i64 (M : Int), .int .u64 (F : Int)] 27)).alloc (.cells #[.int .u64 (a : Int)] 22)).alloc (.cells #[.int .u64 0, .slice none 0 0] 25)).alloc (.cells #[.int .u64 0, .int .i64 0, .int .u64 0] 27)) = W1 at *
  have hE := (Ext.refl W1).drew
  (try replace h1 := h1.ext hE); (try replace h2 := h2.ext hE); (try replace h3 := h3.ext hE); (try replace h6 := h6.ext hE); (try replace h7 := h7.ext hE); (try replace h8 := h8.ext hE); (try replace h9 := h9.ext hE); (try replace k3 := k3.ext hE); (try replace k4 := k4.ext hE); (try replace hM := hM.ext hE); (try replace HE := Lib.hid (HE.out.trans hE)); (try replace r0 := r0.ext hE); (try replace r1 := r1.ext hE); (try replace r2 := r2.ext hE); (try replace r3 := r3.ext hE); (try replace r4 := r4.ext hE); (try replace r5 := r5.ext hE); (try replace r6 := r6.ext hE)
  clear hE
  refine wp_region_seq [(0, false), (1, false), (2, true), (3, true)] (Gap (w.heap.size + 1 + 1 + 1) (w.heap.size + 1 + 1 + 1 + 1 + 1)) (by kernel_rfl) (by kernel_rfl) (Gap.refl _ _) (fun _ _ _ => Gap.trans) ?_; simp only [List.map, nth_z, nth_s]
  generalize W1.drew = w2 at *
  have l4 := k4.lt
  refine seq_load rfl rfl (fun x hx => Gap.blk hx (h1) (by omega)) rfl Tryd.underlying25 (by kernel_rfl) (by rfl) ?_; intro K hK; simp only [Act.put, List.setIfInBounds_toArray, List.set_cons_zero, List.set_cons_succ]; refine hK _ ?_; clear hK K
  refine seq_load rfl rfl (fun x hx => Gap.blk hx (h2) (by omega)) rfl Tryd.underlying27 (by kernel_rfl) (by rfl) ?_; intro K hK; simp only [Act.put, List.setIfInBounds_toArray, List.set_cons_zero, List.set_cons_succ]; refine hK _ ?_; clear hK K
  refine seq_store_row rfl rfl rfl (k3) (by kernel_rfl) (by rfl) (by simp [Value.oneCell']) (by rfl) (Gap.row _ (by omega) (by omega) _) ?_; intro K hK; simp only [Act.put, List.setIfInBounds_toArray, List.set_cons_zero, List.set_cons_succ]; refine hK _ _ ?_; clear hK K
  replace k4 := k4.apart (show w.heap.size + 1 + 1 + 1 + 1 ≠ w.heap.size + 1 + 1 + 1 by omega) #[.int .u64 (S : Int), .slice B L.length d]
  refine seq_store_row rfl rfl rfl (k4) (by kernel_rfl) (by rfl) (by simp [Value.oneCell']) (by rfl) (Gap.row _ (by omega) (by omega) _) ?_; intro K hK; simp only [Act.put, List.setIfInBounds_toArray, List.set_cons_zero, List.set_cons_succ]; refine hK _ _ ?_; clear hK K
  refine seq_done ?_
  have f1 := (h1.apart (show w.heap.size ≠ w.heap.size + 1 + 1 + 1 by omega) #[.int .u64 (S : Int), .slice B L.length d]).apart (show w.heap.size ≠ w.heap.size + 1 + 1 + 1 + 1 by omega) #[.int .u64 (P : Int), .int .i64 (M : Int), .int .u64 (F : Int)]
  have f3 := (h3.apart (show w.heap.size + 1 + 1 ≠ w.heap.size + 1 + 1 + 1 by omega) #[.int .u64 (S : Int), .slice B L.length d]).apart (show w.heap.size + 1 + 1 ≠ w.heap.size + 1 + 1 + 1 + 1 by omega) #[.int .u64 (P : Int), .int .i64 (M : Int), .int .u64 (F : Int)]
  have f6 := (k3.row #[.int .u64 (S : Int), .slice B L.length d]).apart (show w.heap.size + 1 + 1 + 1 ≠ w.heap.size + 1 + 1 + 1 + 1 by omega) #[.int .u64 (P : Int), .int .i64 (M : Int), .int .u64 (F : Int)]
  have f7 := k4.row #[.int .u64 (P : Int), .int .i64 (M : Int), .int .u64 (F : Int)]
  have HEf := Lib.hid ((HE.out.row (show w.heap.size ≤ w.heap.size + 1 + 1 + 1 by omega) #[.int .u64 (S : Int), .slice B L.length d]).row (show w.heap.size ≤ w.heap.size + 1 + 1 + 1 + 1 by omega) #[.int .u64 (P : Int), .int .i64 (M : Int), .int .u64 (F : Int)])
  clear h1 h2 h3 k3 k4 HE
  (try simp only [Act.put, List.setIfInBounds_toArray, List.set_cons_zero, List.set_cons_succ])
  generalize (w2.setRow (w.heap.size + 1 + 1 + 1) #[.int .u64 (S : Int), .slice B L.length d]).setRow (w.heap.size + 1 + 1 + 1 + 1) #[.int .u64 (P : Int), .int .i64 (M : Int), .int .u64 (F : Int)] = w3 at *
  have h1 := f1
  have h3 := f3
  have h6 := f6
  have h7 := f7
  have HE := HEf
  clear f1 f3 f6 f7 HEf
  have y3 := h3.cell 0
  have y3 : w3.cell? ⟨w.heap.size + 1 + 1, 0, none⟩ = some (.int .u64 (a : Int)) := y3
  go_wp2_with (refine wpList_load_blk (by rfl) 25 _ rfl rfl h1 Tryd.underlying25 rfl (by kernel_rfl) ?_)
  refine (cre 0 (by decide) _ (hMo _ HE.out) (hT.2.ext HE.out)).mono ?_
  rintro e w5 ⟨rfl, hE⟩
  (try replace h1 := h1.ext hE); (try replace h2 := h2.ext hE); (try replace h3 := h3.ext hE); (try replace h6 := h6.ext hE); (try replace h7 := h7.ext hE); (try replace h8 := h8.ext hE); (try replace h9 := h9.ext hE); (try replace k3 := k3.ext hE); (try replace k4 := k4.ext hE); (try replace hM := hM.ext hE); (try replace HE := Lib.hid (HE.out.trans hE)); (try replace r0 := r0.ext hE); (try replace r1 := r1.ext hE); (try replace r2 := r2.ext hE); (try replace r3 := r3.ext hE); (try replace r4 := r4.ext hE); (try replace r5 := r5.ext hE); (try replace r6 := r6.ext hE)
  clear hE y3
  go_wp2_with fail
  clear hlv
  have hbot := Lib.hid hbot
  have r0 := hMo _ HE.out
  have l7 := h7.lt
  have y3 : w5.cell? ⟨w.heap.size + 1 + 1, 0, none⟩ = some (.int .u64 (a : Int)) := h3.cell 0
  rcases (by omega : n = lo ∨ n = lo + 1 ∨ n = lo + 1 + 1) with e | e | e
  · have d0 : decide (lo < n) = false := by rw [e]; simp
    have hDD : D = (L, F) := by have h := hbot.out; rw [← e] at h; rw [← hD.out]; exact h
    have hDD := Lib.hid hDD
    refine wp_loop_rounds 1 ?_
    rw [rounds_succ]
    go_wp2_with fail
    have hE := (Ext.refl w5).drew
    (try replace h1 := h1.ext hE); (try replace h2 := h2.ext hE); (try replace h3 := h3.ext hE); (try replace h6 := h6.ext hE); (try replace h7 := h7.ext hE); (try replace h8 := h8.ext hE); (try replace h9 := h9.ext hE); (try replace k3 := k3.ext hE); (try replace k4 := k4.ext hE); (try replace hM := hM.ext hE); (try replace HE := Lib.hid (HE.out.trans hE)); (try replace r0 := r0.ext hE); (try replace r1 := r1.ext hE); (try replace r2 := r2.ext hE); (try replace r3 := r3.ext hE); (try replace r4 := r4.ext hE); (try replace r5 := r5.ext hE); (try replace r6 := r6.ext hE)
    clear hE
    refine wp_region_seq [(0, false), (1, false), (2, true), (3, true)] (Same2 (w.heap.size + 1 + 1 + 1) #[.int .u64 (S : Int), .slice B L.length d] #[.int .u64 (P : Int), .int .i64 (M : Int), .int .u64 (F : Int)]) (by kernel_rfl) (by kernel_rfl) (Same2.refl _ _ _) (fun _ _ _ => Same2.trans) ?_
    simp only [List.map, nth_z, nth_s]
    generalize w5.drew = wz at *
    refine seq_load rfl rfl (fun x hx => hx.2.1 h6) rfl Tryd.underlying25 (by kernel_rfl) (by rfl) ?_
    intro K hK; simp only [Act.put, List.setIfInBounds_toArray, List.set_cons_zero, List.set_cons_succ]; refine hK _ ?_; clear hK K
    refine seq_load rfl rfl (fun x hx => hx.2.2 h7) rfl Tryd.underlying27 (by kernel_rfl) (by rfl) ?_
    intro K hK; simp only [Act.put, List.setIfInBounds_toArray, List.set_cons_zero, List.set_cons_succ]; refine hK _ ?_; clear hK K
    refine seq_store_row rfl rfl rfl h6 (by kernel_rfl) (by rfl) (by simp [Value.oneCell']) (by rfl) ⟨Gap.row _ (by omega) (by omega) _, fun h => h.row _, fun h => h.apart (by omega) _⟩ ?_
    intro K hK
    simp only [Act.put, List.setIfInBounds_toArray, List.set_cons_zero, List.set_cons_succ]
    refine hK _ _ ?_
    clear hK K
    have h7s := h7.apart (show w.heap.size + 1 + 1 + 1 + 1 ≠ w.heap.size + 1 + 1 + 1 by omega) #[.int .u64 (S : Int), .slice B L.length d]
    refine seq_store_row rfl rfl rfl h7s (by kernel_rfl) (by rfl) (by simp [Value.oneCell']) (by rfl) ⟨Gap.row _ (by omega) (by omega) _, fun h => h.apart (by omega) _, fun h => h.row _⟩ ?_
    intro K hK
    simp only [Act.put, List.setIfInBounds_toArray, List.set_cons_zero, List.set_cons_succ]
    refine hK _ _ ?_
    clear hK K
    refine seq_done ?_
    have f3 := (h3.apart (show w.heap.size + 1 + 1 ≠ w.heap.size + 1 + 1 + 1 by omega) #[.int .u64 (S : Int), .slice B L.length d]).apart (show w.heap.size + 1 + 1 ≠ w.heap.size + 1 + 1 + 1 + 1 by omega) #[.int .u64 (P : Int), .int .i64 (M : Int), .int .u64 (F : Int)]
    have f6 := (h6.row #[.int .u64 (S : Int), .slice B L.length d]).apart (show w.heap.size + 1 + 1 + 1 ≠ w.heap.size + 1 + 1 + 1 + 1 by omega) #[.int .u64 (P : Int), .int .i64 (M : Int), .int .u64 (F : Int)]
    have f7 := h7s.row #[.int .u64 (P : Int), .int .i64 (M : Int), .int .u64 (F : Int)]
    have rf := (r0.row' hOm (show w.heap.size ≤ w.heap.size + 1 + 1 + 1 by omega) (by omega) #[.int .u64 (S : Int), .slice B L.length d]).row' hOm (show w.heap.size ≤ w.heap.size + 1 + 1 + 1 + 1 by omega) (by omega) #[.int .u64 (P : Int), .int .i64 (M : Int), .int .u64 (F : Int)]
    have HEf := Lib.hid ((HE.out.row (show w.heap.size ≤ w.heap.size + 1 + 1 + 1 by omega) #[.int .u64 (S : Int), .slice B L.length d]).row (show w.heap.size ≤ w.heap.size + 1 + 1 + 1 + 1 by omega) #[.int .u64 (P : Int), .int .i64 (M : Int), .int .u64 (F : Int)])
    have hPW : PrW S P M (w.heap.size + 1 + 1 + 1) (w.heap.size + 1 + 1) a (L, F) B d _ := ⟨f6, f7, f3, rf, fun x hl hx => by have := hOm x hl hx; omega⟩
    clear h1 h3 h6 h7 h7s r0 HE f3 f6 f7 rf
    generalize (wz.setRow (w.heap.size + 1 + 1 + 1) #[.int .u64 (S : Int), .slice B L.length d]).setRow (w.heap.size + 1 + 1 + 1 + 1) #[.int .u64 (P : Int), .int .i64 (M : Int), .int .u64 (F : Int)] = wf at *
    go_wp2
    simp only [bodyPostD]
    simp only [Leaves]
    refine ⟨_, results_cc rfl _ _ rfl rfl hPW.m hPW.p Tryd.underlying25 rfl (by kernel_rfl) Tryd.underlying27 rfl (by kernel_rfl), ?_⟩
    exact ⟨B, d, by rw [hDD.out], by rw [hDD.out]; exact hPW.me, HEf.out⟩
  · have d0 : decide (lo < n) = true := by rw [e]; simp
    have e1 : (n : Int) - 1 = (lo : Int) := by omega
    have He := Lib.hid e
    clear e
    refine wp_loop_rounds 2 ?_
    rw [rounds_succ]
    go_wp2_with (refine wpList_load_blk (by rfl) 25 _ rfl rfl h1 Tryd.underlying25 rfl (by kernel_rfl) ?_)
    refine (cre n hn _ r0 (hT.2.ext HE.out)).mono ?_
    rintro e w6 ⟨rfl, hE⟩
    (try replace h1 := h1.ext hE); (try replace h2 := h2.ext hE); (try replace h3 := h3.ext hE); (try replace h6 := h6.ext hE); (try replace h7 := h7.ext hE); (try replace h8 := h8.ext hE); (try replace h9 := h9.ext hE); (try replace k3 := k3.ext hE); (try replace k4 := k4.ext hE); (try replace hM := hM.ext hE); (try replace HE := Lib.hid (HE.out.trans hE)); (try replace r0 := r0.ext hE); (try replace r1 := r1.ext hE); (try replace r2 := r2.ext hE); (try replace r3 := r3.ext hE); (try replace r4 := r4.ext hE); (try replace r5 := r5.ext hE); (try replace r6 := r6.ext hE)
    clear hE y3
    have l8 := h7.lt
    have zz1 : Blk (w6.alloc (.cells #[.int .u64 0, .int .i64 0, .bool false, .bool false, .bool false, .bool false, .bool false, .bool false, .bool false, .bool false, .int .u64 0, .int .u64 0, .int .u64 0] 34)) w6.heap.size 34 #[.int .u64 0, .int .i64 0, .bool false, .bool false, .bool false, .bool false, .bool false, .bool false, .bool false, .bool false, .int .u64 0, .int .u64 0, .int .u64 0] := Blk.new _ _ _; have hE := ((Ext.refl w6).alloc (.cells #[.int .u64 0, .int .i64 0, .bool false, .bool false, .bool false, .bool false, .bool false, .bool false, .bool false, .bool false, .int .u64 0, .int .u64 0, .int .u64 0] 34)).row (Nat.le_refl w6.heap.size) ((sptC (spotW L n n t a))); (try replace h1 := h1.ext hE); (try replace h2 := h2.ext hE); (try replace h3 := h3.ext hE); (try replace h6 := h6.ext hE); (try replace h7 := h7.ext hE); (try replace h8 := h8.ext hE); (try replace h9 := h9.ext hE); (try replace k3 := k3.ext hE); (try replace k4 := k4.ext hE); (try replace hM := hM.ext hE); (try replace HE := Lib.hid (HE.out.trans hE)); (try replace r0 := r0.ext hE); (try replace r1 := r1.ext hE); (try replace r2 := r2.ext hE); (try replace r3 := r3.ext hE); (try replace r4 := r4.ext hE); (try replace r5 := r5.ext hE); (try replace r6 := r6.ext hE); clear hE; have h8 := zz1.row ((sptC (spotW L n n t a)))
    go_wp2_with ((refine wpList_store_blk rfl 34 _ _ rfl rfl rfl zz1 (spt_info _) (by simp [sptC_size]) (sptC_one _) ?_); clear zz1; generalize (w6.alloc (.cells #[.int .u64 0, .int .i64 0, .bool false, .bool false, .bool false, .bool false, .bool false, .bool false, .bool false, .bool false, .int .u64 0, .int .u64 0, .int .u64 0] 34)).setRow w6.heap.size ((sptC (spotW L n n t a))) = X at *)
    have l9 := h8.lt
    generalize w6.heap.size = g8 at *
    rw [rounds_succ]
    go_wp2_with fail
    have hE := (Ext.refl X).drew
    (try replace h1 := h1.ext hE); (try replace h2 := h2.ext hE); (try replace h3 := h3.ext hE); (try replace h6 := h6.ext hE); (try replace h7 := h7.ext hE); (try replace h8 := h8.ext hE); (try replace h9 := h9.ext hE); (try replace k3 := k3.ext hE); (try replace k4 := k4.ext hE); (try replace hM := hM.ext hE); (try replace HE := Lib.hid (HE.out.trans hE)); (try replace r0 := r0.ext hE); (try replace r1 := r1.ext hE); (try replace r2 := r2.ext hE); (try replace r3 := r3.ext hE); (try replace r4 := r4.ext hE); (try replace r5 := r5.ext hE); (try replace r6 := r6.ext hE)
    clear hE
    refine wp_region_seq [(0, false), (1, false), (2, true), (3, true)] (Same2 (w.heap.size + 1 + 1 + 1) #[.int .u64 (S : Int), .slice B L.length d] #[.int .u64 (P : Int), .int .i64 (M : Int), .int .u64 (F : Int)]) (by kernel_rfl) (by kernel_rfl) (Same2.refl _ _ _) (fun _ _ _ => Same2.trans) ?_
    simp only [List.map, nth_z, nth_s]
    generalize X.drew = wz at *
    refine seq_load rfl rfl (fun x hx => hx.2.1 h6) rfl Tryd.underlying25 (by kernel_rfl) (by rfl) ?_
    intro K hK; simp only [Act.put, List.setIfInBounds_toArray, List.set_cons_zero, List.set_cons_succ]; refine hK _ ?_; clear hK K
    refine seq_load rfl rfl (fun x hx => hx.2.2 h7) rfl Tryd.underlying27 (by kernel_rfl) (by rfl) ?_
    intro K hK; simp only [Act.put, List.setIfInBounds_toArray, List.set_cons_zero, List.set_cons_succ]; refine hK _ ?_; clear hK K
    refine seq_store_row rfl rfl rfl h6 (by kernel_rfl) (by rfl) (by simp [Value.oneCell']) (by rfl) ⟨Gap.row _ (by omega) (by omega) _, fun h => h.row _, fun h => h.apart (by omega) _⟩ ?_
    intro K hK
    simp only [Act.put, List.setIfInBounds_toArray, List.set_cons_zero, List.set_cons_succ]
    refine hK _ _ ?_
    clear hK K
    have h7s := h7.apart (show w.heap.size + 1 + 1 + 1 + 1 ≠ w.heap.size + 1 + 1 + 1 by omega) #[.int .u64 (S : Int), .slice B L.length d]
    refine seq_store_row rfl rfl rfl h7s (by kernel_rfl) (by rfl) (by simp [Value.oneCell']) (by rfl) ⟨Gap.row _ (by omega) (by omega) _, fun h => h.apart (by omega) _, fun h => h.row _⟩ ?_
    intro K hK
    simp only [Act.put, List.setIfInBounds_toArray, List.set_cons_zero, List.set_cons_succ]
    refine hK _ _ ?_
    clear hK K
    refine seq_done ?_
    have f3 := (h3.apart (show w.heap.size + 1 + 1 ≠ w.heap.size + 1 + 1 + 1 by omega) #[.int .u64 (S : Int), .slice B L.length d]).apart (show w.heap.size + 1 + 1 ≠ w.heap.size + 1 + 1 + 1 + 1 by omega) #[.int .u64 (P : Int), .int .i64 (M : Int), .int .u64 (F : Int)]
    have f6 := (h6.row #[.int .u64 (S : Int), .slice B L.length d]).apart (show w.heap.size + 1 + 1 + 1 ≠ w.heap.size + 1 + 1 + 1 + 1 by omega) #[.int .u64 (P : Int), .int .i64 (M : Int), .int .u64 (F : Int)]
    have f7 := h7s.row #[.int .u64 (P : Int), .int .i64 (M : Int), .int .u64 (F : Int)]
    have rf := (r0.row' hOm (show w.heap.size ≤ w.heap.size + 1 + 1 + 1 by omega) (by omega) #[.int .u64 (S : Int), .slice B L.length d]).row' hOm (show w.heap.size ≤ w.heap.size + 1 + 1 + 1 + 1 by omega) (by omega) #[.int .u64 (P : Int), .int .i64 (M : Int), .int .u64 (F : Int)]
    have HEf := Lib.hid ((HE.out.row (show w.heap.size ≤ w.heap.size + 1 + 1 + 1 by omega) #[.int .u64 (S : Int), .slice B L.length d]).row (show w.heap.size ≤ w.heap.size + 1 + 1 + 1 + 1 by omega) #[.int .u64 (P : Int), .int .i64 (M : Int), .int .u64 (F : Int)])
    have f8 := (h8.apart (show g8 ≠ w.heap.size + 1 + 1 + 1 by omega) #[.int .u64 (S : Int), .slice B L.length d]).apart (show g8 ≠ w.heap.size + 1 + 1 + 1 + 1 by omega) #[.int .u64 (P : Int), .int .i64 (M : Int), .int .u64 (F : Int)]
    have hPW : PrW S P M (w.heap.size + 1 + 1 + 1) (w.heap.size + 1 + 1) a (L, F) B d _ := ⟨f6, f7, f3, rf, fun x hl hx => by have := hOm x hl hx; omega⟩
    clear h1 h3 h6 h7 h7s h8 r0 HE f3 f6 f7 rf
    generalize (wz.setRow (w.heap.size + 1 + 1 + 1) #[.int .u64 (S : Int), .slice B L.length d]).setRow (w.heap.size + 1 + 1 + 1 + 1) #[.int .u64 (P : Int), .int .i64 (M : Int), .int .u64 (F : Int)] = wf at *
    go_wp2
    rw [He.out] at f8
    refine leaves_cons (f := 39) (args := #[.pointer (some ⟨w.heap.size + 1 + 1 + 1, 0, none⟩), .pointer (some ⟨w.heap.size + 1 + 1 + 1 + 1, 0, none⟩), .pointer (some ⟨g8, 0, none⟩), .pointer (some ⟨w.heap.size + 1 + 1, 0, none⟩)]) (by simp) (by simp [go_sem]) ?_
    refine (cd lo (L, F) B d g8 .returning (hst0 lo) (by have := He.out; omega) (by omega) (by show L.length ≤ 35000; omega) (by omega) _ hPW (by rw [← He.out] at f8 ⊢; exact f8)).mono ?_
    rintro e u' w'' ⟨rfl, rfl, ⟨B2, d2, hPW2⟩, hx, -⟩
    have hs1 := hstep lo (by have := He.out; omega) (by omega) (L, F) hbot.out (hst0 lo)
    rw [← He.out, hD.out] at hs1
    have hs2 := hs1.1
    rw [← He.out, ← hs2] at hPW2
    simp only [settle]
    simp only [Leaves]
    refine ⟨_, results_cc rfl _ _ rfl rfl hPW2.m hPW2.p Tryd.underlying25 rfl (by kernel_rfl) Tryd.underlying27 rfl (by kernel_rfl), ?_⟩
    exact ⟨B2, d2, rfl, hPW2.me, hx _ HEf.out (by omega)⟩
  · obtain ⟨n1, hn1⟩ : ∃ n1, n1 = lo + 1 := ⟨_, rfl⟩
    have en : n = n1 + 1 := by omega
    have d0 : decide (lo < n) = true := by rw [e]; simp; omega
    have d1 : decide (lo < n1) = true := by rw [hn1]; simp
    have e1 : (n : Int) - 1 = (n1 : Int) := by omega
    have e2 : (n1 : Int) - 1 = (lo : Int) := by omega
    have hn12 : n1 ≤ 2 := by omega
    have He := Lib.hid en
    have He1 := Lib.hid hn1
    clear e en hn1
    refine wp_loop_rounds 3 ?_
    rw [rounds_succ]
    go_wp2_with (refine wpList_load_blk (by rfl) 25 _ rfl rfl h1 Tryd.underlying25 rfl (by kernel_rfl) ?_)
    refine (cre n hn _ r0 (hT.2.ext HE.out)).mono ?_
    rintro e w6 ⟨rfl, hE⟩
    (try replace h1 := h1.ext hE); (try replace h2 := h2.ext hE); (try replace h3 := h3.ext hE); (try replace h6 := h6.ext hE); (try replace h7 := h7.ext hE); (try replace h8 := h8.ext hE); (try replace h9 := h9.ext hE); (try replace k3 := k3.ext hE); (try replace k4 := k4.ext hE); (try replace hM := hM.ext hE); (try replace HE := Lib.hid (HE.out.trans hE)); (try replace r0 := r0.ext hE); (try replace r1 := r1.ext hE); (try replace r2 := r2.ext hE); (try replace r3 := r3.ext hE); (try replace r4 := r4.ext hE); (try replace r5 := r5.ext hE); (try replace r6 := r6.ext hE)
    clear hE y3
    have l8 := h7.lt
    have zz1 : Blk (w6.alloc (.cells #[.int .u64 0, .int .i64 0, .bool false, .bool false, .bool false, .bool false, .bool false, .bool false, .bool false, .bool false, .int .u64 0, .int .u64 0, .int .u64 0] 34)) w6.heap.size 34 #[.int .u64 0, .int .i64 0, .bool false, .bool false, .bool false, .bool false, .bool false, .bool false, .bool false, .bool false, .int .u64 0, .int .u64 0, .int .u64 0] := Blk.new _ _ _; have hE := ((Ext.refl w6).alloc (.cells #[.int .u64 0, .int .i64 0, .bool false, .bool false, .bool false, .bool false, .bool false, .bool false, .bool false, .bool false, .int .u64 0, .int .u64 0, .int .u64 0] 34)).row (Nat.le_refl w6.heap.size) ((sptC (spotW L n n t a))); (try replace h1 := h1.ext hE); (try replace h2 := h2.ext hE); (try replace h3 := h3.ext hE); (try replace h6 := h6.ext hE); (try replace h7 := h7.ext hE); (try replace h8 := h8.ext hE); (try replace h9 := h9.ext hE); (try replace k3 := k3.ext hE); (try replace k4 := k4.ext hE); (try replace hM := hM.ext hE); (try replace HE := Lib.hid (HE.out.trans hE)); (try replace r0 := r0.ext hE); (try replace r1 := r1.ext hE); (try replace r2 := r2.ext hE); (try replace r3 := r3.ext hE); (try replace r4 := r4.ext hE); (try replace r5 := r5.ext hE); (try replace r6 := r6.ext hE); clear hE; have h8 := zz1.row ((sptC (spotW L n n t a)))
    go_wp2_with ((refine wpList_store_blk rfl 34 _ _ rfl rfl rfl zz1 (spt_info _) (by simp [sptC_size]) (sptC_one _) ?_); clear zz1; generalize (w6.alloc (.cells #[.int .u64 0, .int .i64 0, .bool false, .bool false, .bool false, .bool false, .bool false, .bool false, .bool false, .bool false, .int .u64 0, .int .u64 0, .int .u64 0] 34)).setRow w6.heap.size ((sptC (spotW L n n t a))) = X at *)
    have l9 := h8.lt
    generalize w6.heap.size = g8 at *
    rw [rounds_succ]
    generalize X = X1 at *
    have y3 : X1.cell? ⟨w.heap.size + 1 + 1, 0, none⟩ = some (.int .u64 (a : Int)) := h3.cell 0
    go_wp2_with (refine wpList_load_blk (by rfl) 25 _ rfl rfl h1 Tryd.underlying25 rfl (by kernel_rfl) ?_)
    refine (cre n1 hn12 _ r0 (hT.2.ext HE.out)).mono ?_
    rintro e w8 ⟨rfl, hE⟩
    (try replace h1 := h1.ext hE); (try replace h2 := h2.ext hE); (try replace h3 := h3.ext hE); (try replace h6 := h6.ext hE); (try replace h7 := h7.ext hE); (try replace h8 := h8.ext hE); (try replace h9 := h9.ext hE); (try replace k3 := k3.ext hE); (try replace k4 := k4.ext hE); (try replace hM := hM.ext hE); (try replace HE := Lib.hid (HE.out.trans hE)); (try replace r0 := r0.ext hE); (try replace r1 := r1.ext hE); (try replace r2 := r2.ext hE); (try replace r3 := r3.ext hE); (try replace r4 := r4.ext hE); (try replace r5 := r5.ext hE); (try replace r6 := r6.ext hE)
    clear hE y3
    have l10 := h8.lt
    have zz1 : Blk (w8.alloc (.cells #[.int .u64 0, .int .i64 0, .bool false, .bool false, .bool false, .bool false, .bool false, .bool false, .bool false, .bool false, .int .u64 0, .int .u64 0, .int .u64 0] 34)) w8.heap.size 34 #[.int .u64 0, .int .i64 0, .bool false, .bool false, .bool false, .bool false, .bool false, .bool false, .bool false, .bool false, .int .u64 0, .int .u64 0, .int .u64 0] := Blk.new _ _ _; have hE := ((Ext.refl w8).alloc (.cells #[.int .u64 0, .int .i64 0, .bool false, .bool false, .bool false, .bool false, .bool false, .bool false, .bool false, .bool false, .int .u64 0, .int .u64 0, .int .u64 0] 34)).row (Nat.le_refl w8.heap.size) ((sptC (spotW L n1 n t a))); (try replace h1 := h1.ext hE); (try replace h2 := h2.ext hE); (try replace h3 := h3.ext hE); (try replace h6 := h6.ext hE); (try replace h7 := h7.ext hE); (try replace h8 := h8.ext hE); (try replace h9 := h9.ext hE); (try replace k3 := k3.ext hE); (try replace k4 := k4.ext hE); (try replace hM := hM.ext hE); (try replace HE := Lib.hid (HE.out.trans hE)); (try replace r0 := r0.ext hE); (try replace r1 := r1.ext hE); (try replace r2 := r2.ext hE); (try replace r3 := r3.ext hE); (try replace r4 := r4.ext hE); (try replace r5 := r5.ext hE); (try replace r6 := r6.ext hE); clear hE; have h9 := zz1.row ((sptC (spotW L n1 n t a)))
    go_wp2_with ((refine wpList_store_blk rfl 34 _ _ rfl rfl rfl zz1 (spt_info _) (by simp [sptC_size]) (sptC_one _) ?_); clear zz1; generalize (w8.alloc (.cells #[.int .u64 0, .int .i64 0, .bool false, .bool false, .bool false, .bool false, .bool false, .bool false, .bool false, .bool false, .int .u64 0, .int .u64 0, .int .u64 0] 34)).setRow w8.heap.size ((sptC (spotW L n1 n t a))) = X at *)
    have l11 := h9.lt
    generalize w8.heap.size = g9 at *
    rw [rounds_succ]
    go_wp2_with fail
    have hE := (Ext.refl X).drew
    (try replace h1 := h1.ext hE); (try replace h2 := h2.ext hE); (try replace h3 := h3.ext hE); (try replace h6 := h6.ext hE); (try replace h7 := h7.ext hE); (try replace h8 := h8.ext hE); (try replace h9 := h9.ext hE); (try replace k3 := k3.ext hE); (try replace k4 := k4.ext hE); (try replace hM := hM.ext hE); (try replace HE := Lib.hid (HE.out.trans hE)); (try replace r0 := r0.ext hE); (try replace r1 := r1.ext hE); (try replace r2 := r2.ext hE); (try replace r3 := r3.ext hE); (try replace r4 := r4.ext hE); (try replace r5 := r5.ext hE); (try replace r6 := r6.ext hE)
    clear hE
    refine wp_region_seq [(0, false), (1, false), (2, true), (3, true)] (Same2 (w.heap.size + 1 + 1 + 1) #[.int .u64 (S : Int), .slice B L.length d] #[.int .u64 (P : Int), .int .i64 (M : Int), .int .u64 (F : Int)]) (by kernel_rfl) (by kernel_rfl) (Same2.refl _ _ _) (fun _ _ _ => Same2.trans) ?_
    simp only [List.map, nth_z, nth_s]
    generalize X.drew = wz at *
    refine seq_load rfl rfl (fun x hx => hx.2.1 h6) rfl Tryd.underlying25 (by kernel_rfl) (by rfl) ?_
    intro K hK; simp only [Act.put, List.setIfInBounds_toArray, List.set_cons_zero, List.set_cons_succ]; refine hK _ ?_; clear hK K
    refine seq_load rfl rfl (fun x hx => hx.2.2 h7) rfl Tryd.underlying27 (by kernel_rfl) (by rfl) ?_
    intro K hK; simp only [Act.put, List.setIfInBounds_toArray, List.set_cons_zero, List.set_cons_succ]; refine hK _ ?_; clear hK K
    refine seq_store_row rfl rfl rfl h6 (by kernel_rfl) (by rfl) (by simp [Value.oneCell']) (by rfl) ⟨Gap.row _ (by omega) (by omega) _, fun h => h.row _, fun h => h.apart (by omega) _⟩ ?_
    intro K hK
    simp only [Act.put, List.setIfInBounds_toArray, List.set_cons_zero, List.set_cons_succ]
    refine hK _ _ ?_
    clear hK K
    have h7s := h7.apart (show w.heap.size + 1 + 1 + 1 + 1 ≠ w.heap.size + 1 + 1 + 1 by omega) #[.int .u64 (S : Int), .slice B L.length d]
    refine seq_store_row rfl rfl rfl h7s (by kernel_rfl) (by rfl) (by simp [Value.oneCell']) (by rfl) ⟨Gap.row _ (by omega) (by omega) _, fun h => h.apart (by omega) _, fun h => h.row _⟩ ?_
    intro K hK
    simp only [Act.put, List.setIfInBounds_toArray, List.set_cons_zero, List.set_cons_succ]
    refine hK _ _ ?_
    clear hK K
    refine seq_done ?_
    have f3 := (h3.apart (show w.heap.size + 1 + 1 ≠ w.heap.size + 1 + 1 + 1 by omega) #[.int .u64 (S : Int), .slice B L.length d]).apart (show w.heap.size + 1 + 1 ≠ w.heap.size + 1 + 1 + 1 + 1 by omega) #[.int .u64 (P : Int), .int .i64 (M : Int), .int .u64 (F : Int)]
    have f6 := (h6.row #[.int .u64 (S : Int), .slice B L.length d]).apart (show w.heap.size + 1 + 1 + 1 ≠ w.heap.size + 1 + 1 + 1 + 1 by omega) #[.int .u64 (P : Int), .int .i64 (M : Int), .int .u64 (F : Int)]
    have f7 := h7s.row #[.int .u64 (P : Int), .int .i64 (M : Int), .int .u64 (F : Int)]
    have rf := (r0.row' hOm (show w.heap.size ≤ w.heap.size + 1 + 1 + 1 by omega) (by omega) #[.int .u64 (S : Int), .slice B L.length d]).row' hOm (show w.heap.size ≤ w.heap.size + 1 + 1 + 1 + 1 by omega) (by omega) #[.int .u64 (P : Int), .int .i64 (M : Int), .int .u64 (F : Int)]
    have HEf := Lib.hid ((HE.out.row (show w.heap.size ≤ w.heap.size + 1 + 1 + 1 by omega) #[.int .u64 (S : Int), .slice B L.length d]).row (show w.heap.size ≤ w.heap.size + 1 + 1 + 1 + 1 by omega) #[.int .u64 (P : Int), .int .i64 (M : Int), .int .u64 (F : Int)])
    have f8 := (h8.apart (show g8 ≠ w.heap.size + 1 + 1 + 1 by omega) #[.int .u64 (S : Int), .slice B L.length d]).apart (show g8 ≠ w.heap.size + 1 + 1 + 1 + 1 by omega) #[.int .u64 (P : Int), .int .i64 (M : Int), .int .u64 (F : Int)]
    have f9 := (h9.apart (show g9 ≠ w.heap.size + 1 + 1 + 1 by omega) #[.int .u64 (S : Int), .slice B L.length d]).apart (show g9 ≠ w.heap.size + 1 + 1 + 1 + 1 by omega) #[.int .u64 (P : Int), .int .i64 (M : Int), .int .u64 (F : Int)]
    have hPW : PrW S P M (w.heap.size + 1 + 1 + 1) (w.heap.size + 1 + 1) a (L, F) B d _ := ⟨f6, f7, f3, rf, fun x hl hx => by have := hOm x hl hx; omega⟩
    clear h1 h3 h6 h7 h7s h8 h9 r0 HE f3 f6 f7 rf
    generalize (wz.setRow (w.heap.size + 1 + 1 + 1) #[.int .u64 (S : Int), .slice B L.length d]).setRow (w.heap.size + 1 + 1 + 1 + 1) #[.int .u64 (P : Int), .int .i64 (M : Int), .int .u64 (F : Int)] = wf at *
    go_wp2
    refine leaves_cons (f := 39) (args := #[.pointer (some ⟨w.heap.size + 1 + 1 + 1, 0, none⟩), .pointer (some ⟨w.heap.size + 1 + 1 + 1 + 1, 0, none⟩), .pointer (some ⟨g9, 0, none⟩), .pointer (some ⟨w.heap.size + 1 + 1, 0, none⟩)]) (by simp) (by simp [go_sem]) ?_
    refine (cd lo (L, F) B d g9 .returning (hst0 lo) (by have := He.out; have := He1.out; omega) (by omega) (by show L.length ≤ 35000; omega) (by omega) _ hPW (by rw [← He1.out]; exact f9)).mono ?_
    rintro e u' w'' ⟨rfl, rfl, ⟨B2, d2, hPW2⟩, hx, hbk⟩
    have g8b := hbk g8 _ _ (by omega) f8
    have hs1 := hstep lo (by have := He.out; have := He1.out; omega) (by omega) (L, F) hbot.out (hst0 lo)
    obtain ⟨q1, hq1⟩ : ∃ q1, prOne P M (reachT L a (lo + 1) n t).1 (ixN a (lo + 1)) (tE L (reachT L a (lo + 1) n t).1 (ixN a (lo + 1))).pp (L, F) = q1 := ⟨_, rfl⟩
    rw [hq1] at hs1 hPW2
    rw [← He1.out] at hs1
    simp only [settle]
    refine leaves_cons (f := 39) (args := #[.pointer (some ⟨w.heap.size + 1 + 1 + 1, 0, none⟩), .pointer (some ⟨w.heap.size + 1 + 1 + 1 + 1, 0, none⟩), .pointer (some ⟨g8, 0, none⟩), .pointer (some ⟨w.heap.size + 1 + 1, 0, none⟩)]) (by simp) (by simp [go_sem]) ?_
    refine (cd n1 q1 B2 d2 g8 .returning hs1.2 (by have := He.out; omega) (by have := He1.out; omega) (by have := hs1.2.is_.len; omega) (by omega) _ hPW2 (by rw [← He.out]; exact g8b)).mono ?_
    rintro e u' w3' ⟨rfl, rfl, ⟨B3, d3, hPW3⟩, hx2, -⟩
    have hs2 := hstep n1 (by have := He.out; omega) (by have := He1.out; omega) q1 hs1.1 hs1.2
    rw [← He.out, hD.out] at hs2
    rw [← He.out, ← hs2.1] at hPW3
    simp only [settle]
    simp only [Leaves]
    refine ⟨_, results_cc rfl _ _ rfl rfl hPW3.m hPW3.p Tryd.underlying25 rfl (by kernel_rfl) Tryd.underlying27 rfl (by kernel_rfl), ?_⟩
    exact ⟨B3, d3, rfl, hPW3.me, hx2 _ (hx _ HEf.out (by omega)) (by omega)⟩
end Go.Proofs.YticbjiddbjgikaaDoor
