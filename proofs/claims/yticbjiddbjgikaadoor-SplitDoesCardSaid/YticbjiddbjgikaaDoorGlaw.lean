/- Layer 20: few words and tables, and as they should be. -/
import Derived.Test.YticbjiddbjgikaaDoorGrspl
import Derived.Test.YticbjiddbjgikaaDoorGrtac
import Derived.Test.YticbjiddbjgikaaDoorCsple
import Derived.Test.YticbjiddbjgikaaDoorGcspp
import Derived.Test.YticbjiddbjgikaaDoorGrspm
import Derived.Test.YticbjiddbjgikaaDoorGrsix
import Derived.Test.YticbjiddbjgikaaDoorGflo
import Derived.Test.YticbjiddbjgikaaDoorLaw19b
import Derived.Test.YticbjiddbjgikaaDoorLaw19a
namespace Go.Proofs.YticbjiddbjgikaaDoor
open Go.ChangeShapes Go.WideShapes Go.ChangeAt Go.RowKit
set_option linter.unusedVariables false
set_option linter.unusedSimpArgs false
set_option maxRecDepth 10000
attribute [local irreducible] World.setRow World.alloc Blk
/-- what is so of a memory, a pool and a tree that are few and fit -/
structure FewIs (S P : Nat) (M : Int) (F : Nat) (L : List (Nat × Nat)) (t : Nat) (l : Int) (m n : Nat) : Prop where
  fit : FitIs S P M F L t l m n
  len : L.length ≤ 1500
  tab : (tabs L n t).length ≤ 60
set_option maxHeartbeats 8000000 in
theorem few20_c (S P : Nat) (M : Int) (F : Nat) (B : Option Addr) (L : List (Nat × Nat)) (d t : Nat) (l : Int) (hS : S < 18446744073709551616) (hL : IsCells L) (ht : t < 18446744073709551616) (hP : P < 18446744073709551616) (hF : F < 18446744073709551616) (hm0 : -9223372036854775808 ≤ M) (hm1 : M ≤ 9223372036854775807) (w : World) (hm : RowL w B L d) :
    Calls Tryd.prog 8 #[.agg #[.int .u64 (S : Int), .slice B L.length d], (.agg #[.int .u64 (P : Int), .int .i64 (M : Int), .int .u64 (F : Int)]), .int .u64 (t : Int), .int .i64 l] w fun r w' => ∃ b, r = .returned (.bool b) ∧ (b = true → ∃ m n, FewIs S P M F L t l m n) ∧ Ext w w' := by
  have h1 := (Blk.new w 25 #[.int .u64 (S : Int), .slice B L.length d]).alloc (.cells #[.int .u64 (P : Int), .int .i64 M, .int .u64 (F : Int)] 27)
  have h2 : Blk ((w.alloc (.cells #[.int .u64 (S : Int), .slice B L.length d] 25)).alloc (.cells #[.int .u64 (P : Int), .int .i64 M, .int .u64 (F : Int)] 27)) (w.heap.size + 1) 27 #[.int .u64 (P : Int), .int .i64 M, .int .u64 (F : Int)] := blk_at (by simp)
  have HE := Lib.hid (((Ext.refl w).alloc (.cells #[.int .u64 (S : Int), .slice B L.length d] 25)).alloc (.cells #[.int .u64 (P : Int), .int .i64 M, .int .u64 (F : Int)] 27))
  have y1 := h1.cell 1
  go_enter Tryd.func8, Tryd.ntmps8
  by_cases hlen : L.length ≤ 1500
  case neg =>
    have d1 : decide ((L.length : Int) ≤ 1500) = false := by simp; omega
    clear hlen
    go_wp2
    go_ret
    exact ⟨false, rfl, (fun h => by cases h), HE.out⟩
  have d1 : decide ((L.length : Int) ≤ 1500) = true := by simp; omega
  go_wp2_with (first | (refine wpList_load_blk (by rfl) 25 _ rfl rfl h1 Tryd.underlying25 rfl (by kernel_rfl) ?_) | (refine wpList_load_blk (by rfl) 27 _ rfl rfl h2 Tryd.underlying27 rfl (by kernel_rfl) ?_))
  refine (rfits_c S P M F B L d t l hS hL ht hP hF hm0 hm1 (by omega) _ (hm.ext HE.out)).mono ?_
  rintro e w1 ⟨b, rfl, hb, hE⟩
  (try replace hb := hb.ext hE); (try replace hm := hm.ext hE); (try replace h1 := h1.ext hE); (try replace h2 := h2.ext hE); (try replace HE := Lib.hid (HE.out.trans hE)); (try replace HF := Lib.hid (HF.out.trans hE)); (try replace r0 := r0.ext hE); (try replace r1 := r1.ext hE); (try replace r2 := r2.ext hE); (try replace r3 := r3.ext hE); (try replace r4 := r4.ext hE); (try replace r5 := r5.ext hE); (try replace r6 := r6.ext hE)
  clear hE y1
  cases b
  case false =>
    clear hb
    go_wp2
    go_ret
    exact ⟨false, rfl, (fun h => by cases h), HE.out⟩
  obtain ⟨m, n, hfi⟩ := hb rfl
  clear hb
  have hel := hfi.el
  subst hel
  have hso := hfi.size
  have hMm : ∀ W : World, Ext w W → Mem W S B L d := fun W e => ⟨hm.ext e, hfi.fit.rl, hso, by omega⟩
  have cfr := fun W (m : Mem W S B L d) => rframes19_c hso.le n hfi.n2 t W hfi.fit.tree m
  have hft : (frs L n t).length = (tabs L n t).length := by unfold frs; rw [List.length_map]
  have HF := Lib.hid hfi
  have Hft := Lib.hid hft
  unfold MadeK at cfr
  generalize frs L n t = K at *
  clear hfi hft
  go_wp2_with (first | (refine wpList_load_blk (by rfl) 25 _ rfl rfl h1 Tryd.underlying25 rfl (by kernel_rfl) ?_) | (refine wpList_load_blk (by rfl) 27 _ rfl rfl h2 Tryd.underlying27 rfl (by kernel_rfl) ?_))
  refine (cfr _ (hMm _ HE.out)).mono ?_
  rintro e w2 ⟨v, rfl, hown, hE⟩
  obtain ⟨A4, c4, rfl, -, -⟩ := own_rowv ku_ok hown
  replace HE := Lib.hid (HE.out.trans hE)
  clear hE hown cfr h1 h2 hMm
  by_cases hk : K.length ≤ 60
  · have d2 : decide ((K.length : Int) ≤ 60) = true := by simp; omega
    have Hk := Lib.hid hk
    have Hl := Lib.hid hlen
    clear hk hlen
    go_wp2
    go_ret
    exact ⟨true, rfl, (fun h => ⟨m, n, HF.out, Hl.out, by rw [← Hft.out]; exact Hk.out⟩), HE.out⟩
  · have d2 : decide ((K.length : Int) ≤ 60) = false := by simp; omega
    clear hk
    go_wp2
    go_ret
    exact ⟨false, rfl, (fun h => by cases h), HE.out⟩
end Go.Proofs.YticbjiddbjgikaaDoor
/- awake of layer 20's laws. -/
namespace Go.Proofs.YticbjiddbjgikaaDoor
open Go.ChangeShapes Go.WideShapes Go.ChangeAt Go.RowKit
set_option linter.unusedVariables false
set_option linter.unusedSimpArgs false
set_option maxRecDepth 10000
theorem dn_ok {S P M a k F G u : Nat} {L K : List (Nat × Nat)} {w w' : World} {r : Ending} (h : DnP S P M a k L F (0, K, G, u) w r w') :
    ∃ B d, r = .returned (.tuple #[.agg #[.int .u64 (S : Int), .slice B K.length d], (.agg #[.int .u64 (P : Int), .int .i64 (M : Int), .int .u64 (G : Int)]), .agg (sptC ⟨u, (k : Int), tE K u (ixN a k)⟩), .int .i64 0]) ∧ Mem w' S B K d ∧ Ext w w' := by
  obtain ⟨B, d, hE, h | h⟩ := h
  · exact ⟨B, d, h.2.1, h.2.2, hE⟩
  · exact absurd rfl h.1
theorem dn_er {S P M a k F G u e : Nat} {L K : List (Nat × Nat)} {w w' : World} {r : Ending} (he : e ≠ 0) (h : DnP S P M a k L F (e, K, G, u) w r w') :
    ∃ B d, r = .returned (.tuple #[.agg #[.int .u64 (S : Int), .slice B L.length d], (.agg #[.int .u64 (P : Int), .int .i64 (M : Int), .int .u64 (F : Int)]), .agg (sptC ⟨0, 0, getP 0⟩), .int .i64 (e : Int)]) ∧ Mem w' S B L d ∧ Ext w w' := by
  obtain ⟨B, d, hE, h | h⟩ := h
  · exact absurd h.1 he
  · exact ⟨B, d, h.2.1, h.2.2, hE⟩
theorem to_ok {S P M a k n t F G : Nat} {L K : List (Nat × Nat)} {w w' : World} {r : Ending} (h : ToP S P M a k n t L F (0, K, G) w r w') :
    ∃ B d, r = .returned (.tuple #[.agg #[.int .u64 (S : Int), .slice B K.length d], (.agg #[.int .u64 (P : Int), .int .i64 (M : Int), .int .u64 (G : Int)]), .agg (sptC (spotW K k n t a)), .int .i64 0]) ∧ Mem w' S B K d ∧ Ext w w' := by
  obtain ⟨B, d, hE, h | h⟩ := h
  · exact ⟨B, d, h.2.1, h.2.2, hE⟩
  · exact absurd rfl h.1
theorem to_er {S P M a k n t F G e : Nat} {L K : List (Nat × Nat)} {w w' : World} {r : Ending} (he : e ≠ 0) (h : ToP S P M a k n t L F (e, K, G) w r w') :
    ∃ B d, r = .returned (.tuple #[.agg #[.int .u64 (S : Int), .slice B L.length d], (.agg #[.int .u64 (P : Int), .int .i64 (M : Int), .int .u64 (F : Int)]), .agg (sptC ⟨0, 0, getP 0⟩), .int .i64 (e : Int)]) ∧ Mem w' S B L d ∧ Ext w w' := by
  obtain ⟨B, d, hE, h | h⟩ := h
  · exact absurd h.1 he
  · exact ⟨B, d, h.2.1, h.2.2, hE⟩
theorem nmps (w : World) (a b c : Array Value) :
    Blk (((w.alloc (.cells #[.int .u64 0, .slice none 0 0] 25)).alloc (.cells #[.int .u64 0, .int .i64 0, .int .u64 0] 27)).alloc (.cells #[.int .u64 0, .int .i64 0, .bool false, .bool false, .bool false, .bool false, .bool false, .bool false, .bool false, .bool false, .int .u64 0, .int .u64 0, .int .u64 0] 34)) w.heap.size 25 #[.int .u64 0, .slice none 0 0] ∧
    Blk ((((w.alloc (.cells #[.int .u64 0, .slice none 0 0] 25)).alloc (.cells #[.int .u64 0, .int .i64 0, .int .u64 0] 27)).alloc (.cells #[.int .u64 0, .int .i64 0, .bool false, .bool false, .bool false, .bool false, .bool false, .bool false, .bool false, .bool false, .int .u64 0, .int .u64 0, .int .u64 0] 34)).setRow w.heap.size a) (w.heap.size + 1) 27 #[.int .u64 0, .int .i64 0, .int .u64 0] ∧
    Blk (((((w.alloc (.cells #[.int .u64 0, .slice none 0 0] 25)).alloc (.cells #[.int .u64 0, .int .i64 0, .int .u64 0] 27)).alloc (.cells #[.int .u64 0, .int .i64 0, .bool false, .bool false, .bool false, .bool false, .bool false, .bool false, .bool false, .bool false, .int .u64 0, .int .u64 0, .int .u64 0] 34)).setRow w.heap.size a).setRow (w.heap.size + 1) b) (w.heap.size + 1 + 1) 34 #[.int .u64 0, .int .i64 0, .bool false, .bool false, .bool false, .bool false, .bool false, .bool false, .bool false, .bool false, .int .u64 0, .int .u64 0, .int .u64 0] ∧
    Ext w ((((((w.alloc (.cells #[.int .u64 0, .slice none 0 0] 25)).alloc (.cells #[.int .u64 0, .int .i64 0, .int .u64 0] 27)).alloc (.cells #[.int .u64 0, .int .i64 0, .bool false, .bool false, .bool false, .bool false, .bool false, .bool false, .bool false, .bool false, .int .u64 0, .int .u64 0, .int .u64 0] 34)).setRow w.heap.size a).setRow (w.heap.size + 1) b).setRow (w.heap.size + 1 + 1) c) ∧
    Blk ((((((w.alloc (.cells #[.int .u64 0, .slice none 0 0] 25)).alloc (.cells #[.int .u64 0, .int .i64 0, .int .u64 0] 27)).alloc (.cells #[.int .u64 0, .int .i64 0, .bool false, .bool false, .bool false, .bool false, .bool false, .bool false, .bool false, .bool false, .int .u64 0, .int .u64 0, .int .u64 0] 34)).setRow w.heap.size a).setRow (w.heap.size + 1) b).setRow (w.heap.size + 1 + 1) c) w.heap.size 25 a ∧
    Blk ((((((w.alloc (.cells #[.int .u64 0, .slice none 0 0] 25)).alloc (.cells #[.int .u64 0, .int .i64 0, .int .u64 0] 27)).alloc (.cells #[.int .u64 0, .int .i64 0, .bool false, .bool false, .bool false, .bool false, .bool false, .bool false, .bool false, .bool false, .int .u64 0, .int .u64 0, .int .u64 0] 34)).setRow w.heap.size a).setRow (w.heap.size + 1) b).setRow (w.heap.size + 1 + 1) c) (w.heap.size + 1) 27 b ∧
    Blk ((((((w.alloc (.cells #[.int .u64 0, .slice none 0 0] 25)).alloc (.cells #[.int .u64 0, .int .i64 0, .int .u64 0] 27)).alloc (.cells #[.int .u64 0, .int .i64 0, .bool false, .bool false, .bool false, .bool false, .bool false, .bool false, .bool false, .bool false, .int .u64 0, .int .u64 0, .int .u64 0] 34)).setRow w.heap.size a).setRow (w.heap.size + 1) b).setRow (w.heap.size + 1 + 1) c) (w.heap.size + 1 + 1) 34 c := by
  have b1 : Blk (((w.alloc (.cells #[.int .u64 0, .slice none 0 0] 25)).alloc (.cells #[.int .u64 0, .int .i64 0, .int .u64 0] 27)).alloc (.cells #[.int .u64 0, .int .i64 0, .bool false, .bool false, .bool false, .bool false, .bool false, .bool false, .bool false, .bool false, .int .u64 0, .int .u64 0, .int .u64 0] 34)) w.heap.size 25 #[.int .u64 0, .slice none 0 0] := ((Blk.new w _ _).alloc _).alloc _
  have b2 : Blk (((w.alloc (.cells #[.int .u64 0, .slice none 0 0] 25)).alloc (.cells #[.int .u64 0, .int .i64 0, .int .u64 0] 27)).alloc (.cells #[.int .u64 0, .int .i64 0, .bool false, .bool false, .bool false, .bool false, .bool false, .bool false, .bool false, .bool false, .int .u64 0, .int .u64 0, .int .u64 0] 34)) (w.heap.size + 1) 27 #[.int .u64 0, .int .i64 0, .int .u64 0] := (blk_at (by simp)).alloc _
  have b3 : Blk (((w.alloc (.cells #[.int .u64 0, .slice none 0 0] 25)).alloc (.cells #[.int .u64 0, .int .i64 0, .int .u64 0] 27)).alloc (.cells #[.int .u64 0, .int .i64 0, .bool false, .bool false, .bool false, .bool false, .bool false, .bool false, .bool false, .bool false, .int .u64 0, .int .u64 0, .int .u64 0] 34)) (w.heap.size + 1 + 1) 34 #[.int .u64 0, .int .i64 0, .bool false, .bool false, .bool false, .bool false, .bool false, .bool false, .bool false, .bool false, .int .u64 0, .int .u64 0, .int .u64 0] := blk_at (by simp)
  have hE : Ext w (((w.alloc (.cells #[.int .u64 0, .slice none 0 0] 25)).alloc (.cells #[.int .u64 0, .int .i64 0, .int .u64 0] 27)).alloc (.cells #[.int .u64 0, .int .i64 0, .bool false, .bool false, .bool false, .bool false, .bool false, .bool false, .bool false, .bool false, .int .u64 0, .int .u64 0, .int .u64 0] 34)) := (((Ext.refl w).alloc _).alloc _).alloc _
  have c2 := b2.apart (show w.heap.size + 1 ≠ w.heap.size by omega) a
  have c3 := (b3.apart (show w.heap.size + 1 + 1 ≠ w.heap.size by omega) a).apart (show w.heap.size + 1 + 1 ≠ w.heap.size + 1 by omega) b
  exact ⟨b1, c2, c3, ((hE.row (Nat.le_refl _) _).row (by omega) _).row (by omega) _, ((b1.row a).apart (by omega) _).apart (by omega) _, (c2.row b).apart (by omega) _, c3.row c⟩
/-! closed facts -/
def aW1 : List (Nat × Nat) := [(0, putN (mkL 1)), (512, putN (mkL 2))]
def aW5 : Pt := makeP 512 ⟨true, false, false, false⟩ false
def aW2 : List (Nat × Nat) := stS aW1 1 1 (putN aW5)
def aW3 : Nat × List (Nat × Nat) × Nat := toS 1 2101248 0 2 0 3 aW2 4
theorem aw20_d1 : dnS 1 20480 0 2 [] 7 0 = (0, aW1, 4, 2) := by decide +kernel
theorem aw20_d2 : dnS 1 20480 0 2 [] 1 0 = (8, [(0, putN (mkL 1))], 0, 1) := by decide +kernel
theorem aw20_s1 : tE aW1 2 (ixN 20480 0) = getP 0 := by decide +kernel
theorem aw20_p : prS 1 3 20480 2 0 2 aW1 4 = ([], 7) := by decide +kernel
theorem aw20_t : aW3.1 = 0 ∧ aW3.2.2 = 0 ∧ aW3.2.1.length = 515 := by decide +kernel
theorem aw20_t3 : toS 1 2101248 0 2 0 3 aW2 4 = (0, aW3.2.1, aW3.2.2) := by
  show aW3 = _
  exact Prod.ext aw20_t.1 rfl
theorem aw20_u : (spotW aW3.2.1 0 2 0 2101248).tb = 3 ∧ (spotW aW3.2.1 0 2 0 2101248).pt.pp = 513 ∧ (spotW aW3.2.1 0 2 0 2101248).pt.r = true := by decide +kernel
theorem aw20_h : (dnS 1 2101248 0 2 aW2 4 0).1 = 6 := by decide +kernel
theorem aw20_5 : mayB aW5 = true ∧ aW2.length = 3 ∧ aW1.length = 2 ∧ stS aW1 1 (ixN 2097152 1) (putN aW5) = aW2 := by decide +kernel
theorem aw20_pk : PoolK 16384 1 3 := ⟨by decide, by decide, by decide, by decide, by decide⟩
theorem aw20_so : SizeOk 16384 := by unfold SizeOk; omega
theorem aw20_fit {F : Nat} {L : List (Nat × Nat)} (h1 : RL (16384 / 8) L) (h2 : rightM 16384 L 2 0 [] = true) (h3 : clnB L 2 0 = true) (h4 : ((tabs L 2 0).all fun x => x.1 == 0 || isB 1 3 F x.1) = true) : Fit 16384 1 3 F 2 0 L := by
  refine ⟨h1, right_tree.1 h2, cln_cl h3, fun x hx hne => ?_, fun h => by omega⟩
  have := List.all_eq_true.1 h4 x hx
  simpa [hne] using this
theorem aw20_f0 (F : Nat) : Fit 16384 1 3 F 2 0 [] := aw20_fit ⟨List.Pairwise.nil, by simp⟩ (by decide +kernel) (by decide +kernel) (by
  rw [show tabs ([] : List (Nat × Nat)) 2 0 = [(0, 2)] by decide +kernel]; rfl)
theorem aw20_f1 : Fit 16384 1 3 4 2 0 aW1 := aw20_fit (by unfold RL; decide +kernel) (by decide +kernel) (by decide +kernel) (by decide +kernel)
theorem aw20_f2 : Fit 16384 1 3 4 2 0 aW2 := aw20_fit (by unfold RL; decide +kernel) (by decide +kernel) (by decide +kernel) (by decide +kernel)
theorem aw20_t1 : (tabs ([] : List (Nat × Nat)) 2 0).length ≤ 60 ∧ (tabs aW1 2 0).length ≤ 60 ∧ (tabs aW2 2 0).length ≤ 60 := by decide +kernel
theorem aw20_pb : Tryd.prog.built 58 [(0, .bool true)] = some (pmC ⟨true, false, false, false⟩) := by rw [pmC_def]; kernel_rfl
theorem aw20_ub : Tryd.prog.built 34 [(0, .int .u64 1), (1, .int .i64 1)] = some (sptC ⟨1, 1, getP 0⟩) := us_built 1 1
theorem aw20_sb : Tryd.prog.built 34 [(0, .int .u64 2)] = some (sptC ⟨2, 0, getP 0⟩) := by rw [sptC_eq, ptC_eq]; unfold getP; simp; kernel_rfl
end Go.Proofs.YticbjiddbjgikaaDoor
/- awake of layer 20's laws: the walk. -/
namespace Go.Proofs.YticbjiddbjgikaaDoor
open Go.ChangeShapes Go.WideShapes Go.ChangeAt Go.RowKit
set_option linter.unusedVariables false
set_option linter.unusedSimpArgs false
set_option maxRecDepth 10000
attribute [local irreducible] World.setRow World.alloc Blk
/-- what awake answers -/
def Awk20 : Prop := ∀ w, (Tab w ∧ Siz w) → Calls Tryd.prog 7 #[] w fun r w' => r = .returned (.bool true) ∧ Ext w w'
set_option maxRecDepth 100000 in
set_option maxHeartbeats 16000000 in
theorem awake20_c : Awk20 := by
  intro w hT
  have hTE : ∀ W : World, Ext w W → Tab W ∧ Siz W := fun W e => ⟨Tab.below hT.1 e, hT.2.ext e⟩
  obtain ⟨W0, hW⟩ : ∃ W0, W0 = (w.alloc (.cells #[.int .u64 16384, .slice none 0 0] 25)).alloc (.cells #[.int .u64 1, .int .i64 3, .int .u64 7] 27) := ⟨_, rfl⟩
  have HE : Hid (Ext w W0) := Lib.hid (by rw [hW]; exact ((Ext.refl w).alloc _).alloc _)
  have h1 : Blk W0 w.heap.size 25 #[.int .u64 16384, .slice none 0 0] := by rw [hW]; exact (Blk.new w _ _).alloc _
  have h2 : Blk W0 (w.heap.size + 1) 27 #[.int .u64 1, .int .i64 3, .int .u64 7] := by rw [hW]; exact blk_at (by simp)
  have hM0 : ∀ W : World, Mem W 16384 none [] 0 := fun W => ⟨RowL.nil W, ⟨List.Pairwise.nil, by simp⟩, aw20_so, by decide⟩
  have HW := Lib.hid hW.symm
  clear hW
  have cd1 := fun W k => (down20_c (k := 0) (a := 20480) (aw20_f0 7) aw20_pk (by decide) (by decide) aw20_t1.1 (by decide) (by decide) (by decide) W (hM0 W) k).mono (fun r w' h => dn_ok (aw20_d1 ▸ h))
  have cd2 := fun W k => (down20_c (k := 0) (a := 20480) (aw20_f0 1) aw20_pk (by decide) (by decide) aw20_t1.1 (by decide) (by decide) (by decide) W (hM0 W) k).mono (fun r w' h => dn_er (by decide) (aw20_d2 ▸ h))
  have cpr := fun W B d (m : Mem W 16384 B aW1 d) k => prune20_c (a := 20480) aw20_f1 aw20_pk (by decide) (by rw [aw20_5.2.2.1]; decide) (by decide) (by decide) W m k
  rw [aw20_p] at cpr
  have cmk := fun W => rmake_c 512 ⟨true, false, false, false⟩ false W
  have cwi := fun W B d (m : Mem W 16384 B aW1 d) => rwith19_c (a := 2097152) (s := 1) (l := 1) (p := aW5) (x := ⟨1, 1, getP 0⟩) W m (by rw [aw20_5.2.2.1]; decide) rfl rfl (by decide) (by decide) (by decide) aw20_5.1
  rw [aw20_5.2.2.2] at cwi
  unfold MdO at cwi
  have cto : ∀ W B d (m : Mem W 16384 B aW2 d) k, Calls _ _ _ W _ := fun W B d (m : Mem W 16384 B aW2 d) k => (to20_c (k := 0) (a := 2101248) aw20_f2 aw20_pk (by decide) (by rw [aw20_5.2.1]; decide) (by have := aw20_t1.2.2; have := tabs_le (reach_mem aW2 2101248 0 2 0); omega) (by decide) (by decide) (by decide) W m k).mono (fun r w' h => to_ok (aw20_t3 ▸ h))
  have cd3 := fun W B d (m : Mem W 16384 B aW2 d) k => (down20_c (k := 0) (a := 2101248) aw20_f2 aw20_pk (by decide) (by rw [aw20_5.2.1]; decide) aw20_t1.2.2 (by decide) (by decide) (by decide) W m k).mono (fun r w' h => dn_er (e := 6) (K := (dnS 1 2101248 0 2 aW2 4 0).2.1) (G := (dnS 1 2101248 0 2 aW2 4 0).2.2.1) (u := (dnS 1 2101248 0 2 aW2 4 0).2.2.2) (by decide) (show DnP _ _ _ _ _ _ _ (6, _, _, _) W r w' from (show (6, (dnS 1 2101248 0 2 aW2 4 0).2.1, (dnS 1 2101248 0 2 aW2 4 0).2.2.1, (dnS 1 2101248 0 2 aW2 4 0).2.2.2) = dnS 1 2101248 0 2 aW2 4 0 by rw [← aw20_h]) ▸ h))
  have csa := fun W B d (m : Mem W 16384 B [] d) => same_xx m (hM0 W)
  rw [decide_eq_true rfl] at csa
  rw [aw20_t.2.1, aw20_t.2.2] at cto
  have hu0 : (sptC (spotW aW3.2.1 0 2 0 2101248))[0]? = some (.int .u64 3) := by have := sptC_tb (spotW aW3.2.1 0 2 0 2101248); rw [aw20_u.1] at this; exact this
  have hu9 : (sptC (spotW aW3.2.1 0 2 0 2101248))[11]? = some (.int .u64 513) := by have := sptC_pp9 (spotW aW3.2.1 0 2 0 2101248); rw [aw20_u.2.1] at this; exact this
  have hu1 : (sptC (spotW aW3.2.1 0 2 0 2101248))[3]? = some (.bool true) := by
    have : (sptC (spotW aW3.2.1 0 2 0 2101248))[3]? = some (.bool (spotW aW3.2.1 0 2 0 2101248).pt.r) := by simp only [sptC_eq, ptC_eq]; rfl
    rw [aw20_u.2.2] at this; exact this
  have hl1 := aw20_5.2.1
  have hl2 := aw20_5.2.2.1
  simp only [aw20_s1, hl1, hl2, List.length_nil, show ((0 : Nat) : Int) = 0 from rfl, show ((1 : Nat) : Int) = 1 from rfl, show ((2 : Nat) : Int) = 2 from rfl, show ((3 : Nat) : Int) = 3 from rfl, show ((4 : Nat) : Int) = 4 from rfl, show ((6 : Nat) : Int) = 6 from rfl, show ((7 : Nat) : Int) = 7 from rfl, show ((8 : Nat) : Int) = 8 from rfl, show ((512 : Nat) : Int) = 512 from rfl, show ((515 : Nat) : Int) = 515 from rfl, show ((16384 : Nat) : Int) = 16384 from rfl, show ((20480 : Nat) : Int) = 20480 from rfl, show ((2097152 : Nat) : Int) = 2097152 from rfl, show ((2101248 : Nat) : Int) = 2101248 from rfl] at cd1 cd2 cpr cmk cwi cto cd3 csa
  generalize spotW aW3.2.1 0 2 0 2101248 = SU at *
  generalize aW3.2.1 = K3 at *
  clear hl1 hl2
  go_enter Tryd.func7, Tryd.ntmps7
  go_upto_region 3 with fail
  rw [HW.out]
  clear HW
  go_wp2_with (first | (refine wpList_load_blk (by rfl) 25 _ rfl rfl h1 Tryd.underlying25 rfl (by kernel_rfl) ?_) | (refine wpList_load_blk (by rfl) 27 _ rfl rfl h2 Tryd.underlying27 rfl (by kernel_rfl) ?_))
  refine (cd1 _ (hTE _ HE.out)).mono ?_
  rintro e w1 ⟨B1, d1, rfl, r1, hE⟩
  (try replace h1 := h1.ext hE); (try replace h2 := h2.ext hE); (try replace h3 := h3.ext hE); (try replace h4 := h4.ext hE); (try replace h5 := h5.ext hE); (try replace h6 := h6.ext hE); (try replace h7 := h7.ext hE); (try replace h8 := h8.ext hE); (try replace h9 := h9.ext hE); (try replace k1 := k1.ext hE); (try replace k2 := k2.ext hE); (try replace k7 := k7.ext hE); (try replace k8 := k8.ext hE); (try replace k9 := k9.ext hE); (try replace HE := Lib.hid (HE.out.trans hE)); (try replace r0 := r0.ext hE); (try replace r1 := r1.ext hE); (try replace r2 := r2.ext hE); (try replace r3 := r3.ext hE); (try replace r4 := r4.ext hE); (try replace r5 := r5.ext hE); (try replace r6 := r6.ext hE)
  clear hE cd1
  obtain ⟨zz1, zz2, zz3, hE, h3, h4, h5⟩ := nmps w1 (#[.int .u64 16384, .slice B1 2 d1]) (#[.int .u64 1, .int .i64 3, .int .u64 4]) (sptC ⟨2, 0, getP 0⟩); (try replace h1 := h1.ext hE); (try replace h2 := h2.ext hE); (try replace h3 := h3.ext hE); (try replace h4 := h4.ext hE); (try replace h5 := h5.ext hE); (try replace h6 := h6.ext hE); (try replace h7 := h7.ext hE); (try replace h8 := h8.ext hE); (try replace h9 := h9.ext hE); (try replace k1 := k1.ext hE); (try replace k2 := k2.ext hE); (try replace k7 := k7.ext hE); (try replace k8 := k8.ext hE); (try replace k9 := k9.ext hE); (try replace HE := Lib.hid (HE.out.trans hE)); (try replace r0 := r0.ext hE); (try replace r1 := r1.ext hE); (try replace r2 := r2.ext hE); (try replace r3 := r3.ext hE); (try replace r4 := r4.ext hE); (try replace r5 := r5.ext hE); (try replace r6 := r6.ext hE)
  clear hE
  go_wp2_with (first | (first | (refine wpList_store_blk rfl 25 _ _ rfl rfl rfl zz1 (by kernel_rfl) (by rfl) (by simp [Value.oneCell']) ?_) | (refine wpList_store_blk rfl 27 _ _ rfl rfl rfl zz2 (by kernel_rfl) (by rfl) (by simp [Value.oneCell']) ?_) | ((refine wpList_store_blk rfl 34 _ _ rfl rfl rfl zz3 (spt_info _) (by simp [sptC_size]) (sptC_one _) ?_); clear zz1 zz2 zz3; generalize (((((w1.alloc (.cells #[.int .u64 0, .slice none 0 0] 25)).alloc (.cells #[.int .u64 0, .int .i64 0, .int .u64 0] 27)).alloc (.cells #[.int .u64 0, .int .i64 0, .bool false, .bool false, .bool false, .bool false, .bool false, .bool false, .bool false, .bool false, .int .u64 0, .int .u64 0, .int .u64 0] 34)).setRow w1.heap.size (#[.int .u64 16384, .slice B1 2 d1])).setRow (w1.heap.size + 1) (#[.int .u64 1, .int .i64 3, .int .u64 4])).setRow (w1.heap.size + 1 + 1) (sptC ⟨2, 0, getP 0⟩) = X1 at *)) | (refine wpList_load_blk (by rfl) 25 _ rfl rfl h1 Tryd.underlying25 rfl (by kernel_rfl) ?_))
  refine (cd2 _ (hTE _ HE.out)).mono ?_
  rintro e w2 ⟨B2, d2, rfl, -, hE⟩
  (try replace h1 := h1.ext hE); (try replace h2 := h2.ext hE); (try replace h3 := h3.ext hE); (try replace h4 := h4.ext hE); (try replace h5 := h5.ext hE); (try replace h6 := h6.ext hE); (try replace h7 := h7.ext hE); (try replace h8 := h8.ext hE); (try replace h9 := h9.ext hE); (try replace k1 := k1.ext hE); (try replace k2 := k2.ext hE); (try replace k7 := k7.ext hE); (try replace k8 := k8.ext hE); (try replace k9 := k9.ext hE); (try replace HE := Lib.hid (HE.out.trans hE)); (try replace r0 := r0.ext hE); (try replace r1 := r1.ext hE); (try replace r2 := r2.ext hE); (try replace r3 := r3.ext hE); (try replace r4 := r4.ext hE); (try replace r5 := r5.ext hE); (try replace r6 := r6.ext hE)
  clear hE cd2
  obtain ⟨zz1, zz2, zz3, hE, k7, k8, k9⟩ := nmps w2 (#[.int .u64 16384, .slice B2 0 d2]) (#[.int .u64 1, .int .i64 3, .int .u64 1]) (sptC ⟨0, 0, getP 0⟩); (try replace h1 := h1.ext hE); (try replace h2 := h2.ext hE); (try replace h3 := h3.ext hE); (try replace h4 := h4.ext hE); (try replace h5 := h5.ext hE); (try replace h6 := h6.ext hE); (try replace h7 := h7.ext hE); (try replace h8 := h8.ext hE); (try replace h9 := h9.ext hE); (try replace k1 := k1.ext hE); (try replace k2 := k2.ext hE); (try replace k7 := k7.ext hE); (try replace k8 := k8.ext hE); (try replace k9 := k9.ext hE); (try replace HE := Lib.hid (HE.out.trans hE)); (try replace r0 := r0.ext hE); (try replace r1 := r1.ext hE); (try replace r2 := r2.ext hE); (try replace r3 := r3.ext hE); (try replace r4 := r4.ext hE); (try replace r5 := r5.ext hE); (try replace r6 := r6.ext hE)
  clear hE
  go_wp2_with (first | (first | (refine wpList_store_blk rfl 25 _ _ rfl rfl rfl zz1 (by kernel_rfl) (by rfl) (by simp [Value.oneCell']) ?_) | (refine wpList_store_blk rfl 27 _ _ rfl rfl rfl zz2 (by kernel_rfl) (by rfl) (by simp [Value.oneCell']) ?_) | ((refine wpList_store_blk rfl 34 _ _ rfl rfl rfl zz3 (spt_info _) (by simp [sptC_size]) (sptC_one _) ?_); clear zz1 zz2 zz3; generalize (((((w2.alloc (.cells #[.int .u64 0, .slice none 0 0] 25)).alloc (.cells #[.int .u64 0, .int .i64 0, .int .u64 0] 27)).alloc (.cells #[.int .u64 0, .int .i64 0, .bool false, .bool false, .bool false, .bool false, .bool false, .bool false, .bool false, .bool false, .int .u64 0, .int .u64 0, .int .u64 0] 34)).setRow w2.heap.size (#[.int .u64 16384, .slice B2 0 d2])).setRow (w2.heap.size + 1) (#[.int .u64 1, .int .i64 3, .int .u64 1])).setRow (w2.heap.size + 1 + 1) (sptC ⟨0, 0, getP 0⟩) = X2 at *)) | (refine wpList_load_blk (by rfl) 25 _ rfl rfl h3 Tryd.underlying25 rfl (by kernel_rfl) ?_) | (refine wpList_load_blk (by rfl) 27 _ rfl rfl h4 Tryd.underlying27 rfl (by kernel_rfl) ?_))
  clear k7 k8 k9
  refine (cpr _ _ _ r1 (hTE _ HE.out)).mono ?_
  rintro e w3 ⟨B3, d3, rfl, r2, hE⟩
  (try replace h1 := h1.ext hE); (try replace h2 := h2.ext hE); (try replace h3 := h3.ext hE); (try replace h4 := h4.ext hE); (try replace h5 := h5.ext hE); (try replace h6 := h6.ext hE); (try replace h7 := h7.ext hE); (try replace h8 := h8.ext hE); (try replace h9 := h9.ext hE); (try replace k1 := k1.ext hE); (try replace k2 := k2.ext hE); (try replace k7 := k7.ext hE); (try replace k8 := k8.ext hE); (try replace k9 := k9.ext hE); (try replace HE := Lib.hid (HE.out.trans hE)); (try replace r0 := r0.ext hE); (try replace r1 := r1.ext hE); (try replace r2 := r2.ext hE); (try replace r3 := r3.ext hE); (try replace r4 := r4.ext hE); (try replace r5 := r5.ext hE); (try replace r6 := r6.ext hE)
  clear hE cpr
  simp only [List.length_nil, show ((7 : Nat) : Int) = 7 from rfl]
  obtain ⟨zz1, zz2, hE, h6, h7⟩ := nmp w3 #[.int .u64 16384, .slice B3 0 d3] #[.int .u64 1, .int .i64 3, .int .u64 7]; (try replace h1 := h1.ext hE); (try replace h2 := h2.ext hE); (try replace h3 := h3.ext hE); (try replace h4 := h4.ext hE); (try replace h5 := h5.ext hE); (try replace h6 := h6.ext hE); (try replace h7 := h7.ext hE); (try replace h8 := h8.ext hE); (try replace h9 := h9.ext hE); (try replace k1 := k1.ext hE); (try replace k2 := k2.ext hE); (try replace k7 := k7.ext hE); (try replace k8 := k8.ext hE); (try replace k9 := k9.ext hE); (try replace HE := Lib.hid (HE.out.trans hE)); (try replace r0 := r0.ext hE); (try replace r1 := r1.ext hE); (try replace r2 := r2.ext hE); (try replace r3 := r3.ext hE); (try replace r4 := r4.ext hE); (try replace r5 := r5.ext hE); (try replace r6 := r6.ext hE)
  clear hE
  go_wp2_with (first | (first | (refine wpList_store_blk rfl 25 _ _ rfl rfl rfl zz1 (by kernel_rfl) (by rfl) (by simp [Value.oneCell']) ?_) | ((refine wpList_store_blk rfl 27 _ _ rfl rfl rfl zz2 (by kernel_rfl) (by rfl) (by simp [Value.oneCell']) ?_); clear zz1 zz2; generalize (((w3.alloc (.cells #[.int .u64 0, .slice none 0 0] 25)).alloc (.cells #[.int .u64 0, .int .i64 0, .int .u64 0] 27)).setRow w3.heap.size #[.int .u64 16384, .slice B3 0 d3]).setRow (w3.heap.size + 1) #[.int .u64 1, .int .i64 3, .int .u64 7] = X3 at *)))
  have l1 := h1.lt
  have l2 := h2.lt
  have l3 := h3.lt
  have l4 := h4.lt
  have l5 := h5.lt
  have l6 := h6.lt
  have l7 := h7.lt
  refine wp_region_float 13 25 (#[.int .u64 0, .slice none 0 0]) 5 [([(0, false), (1, false), (2, false)], 3), ([], 4)] [] [(6, true)] (by kernel_rfl) (by kernel_rfl) (fun _ _ => by simp [go_sem, execOp, Act.eval, nth]) (fun _ => rfl) rfl ?_; intro Bd W hE hs0 hwB; have hwE := HE.out.size; (try replace h1 := h1.ext hE); (try replace h2 := h2.ext hE); (try replace h3 := h3.ext hE); (try replace h4 := h4.ext hE); (try replace h5 := h5.ext hE); (try replace h6 := h6.ext hE); (try replace h7 := h7.ext hE); (try replace h8 := h8.ext hE); (try replace h9 := h9.ext hE); (try replace k1 := k1.ext hE); (try replace k2 := k2.ext hE); (try replace k7 := k7.ext hE); (try replace k8 := k8.ext hE); (try replace k9 := k9.ext hE); (try replace HE := Lib.hid (HE.out.trans hE)); (try replace r0 := r0.ext hE); (try replace r1 := r1.ext hE); (try replace r2 := r2.ext hE); (try replace r3 := r3.ext hE); (try replace r4 := r4.ext hE); (try replace r5 := r5.ext hE); (try replace r6 := r6.ext hE); clear hE; simp only [floatB, List.map, nth_z, nth_s]
  intro x W hE; (try simp only [Act.put, List.setIfInBounds_toArray, List.set_cons_zero, List.set_cons_succ]); (try replace h1 := h1.ext hE); (try replace h2 := h2.ext hE); (try replace h3 := h3.ext hE); (try replace h4 := h4.ext hE); (try replace h5 := h5.ext hE); (try replace h6 := h6.ext hE); (try replace h7 := h7.ext hE); (try replace h8 := h8.ext hE); (try replace h9 := h9.ext hE); (try replace k1 := k1.ext hE); (try replace k2 := k2.ext hE); (try replace k7 := k7.ext hE); (try replace k8 := k8.ext hE); (try replace k9 := k9.ext hE); (try replace HE := Lib.hid (HE.out.trans hE)); (try replace r0 := r0.ext hE); (try replace r1 := r1.ext hE); (try replace r2 := r2.ext hE); (try replace r3 := r3.ext hE); (try replace r4 := r4.ext hE); (try replace r5 := r5.ext hE); (try replace r6 := r6.ext hE); replace hs0 := Nat.le_trans hs0 hE.size; clear hE
  refine seq_load rfl rfl (fun x hx => Blk.lower (h3) hx (by omega)) rfl Tryd.underlying25 (by kernel_rfl) (by rfl) ?_; intro K hK; simp only [Act.put, List.setIfInBounds_toArray, List.set_cons_zero, List.set_cons_succ]; refine hK _ ?_; clear hK K
  refine seq_build_as rfl (aw20_ub) (by rfl) ?_; intro K hK; simp only [Act.put, List.setIfInBounds_toArray, List.set_cons_zero, List.set_cons_succ]; refine hK _ ?_; clear hK K
  refine seq_build_as rfl (aw20_pb) (by rfl) ?_; intro K hK; simp only [Act.put, List.setIfInBounds_toArray, List.set_cons_zero, List.set_cons_succ]; refine hK _ ?_; clear hK K
  refine seq_done ⟨rfl, rfl, ?_⟩; intro x W hE; (try simp only [Act.put, List.setIfInBounds_toArray, List.set_cons_zero, List.set_cons_succ]); (try replace h1 := h1.ext hE); (try replace h2 := h2.ext hE); (try replace h3 := h3.ext hE); (try replace h4 := h4.ext hE); (try replace h5 := h5.ext hE); (try replace h6 := h6.ext hE); (try replace h7 := h7.ext hE); (try replace h8 := h8.ext hE); (try replace h9 := h9.ext hE); (try replace k1 := k1.ext hE); (try replace k2 := k2.ext hE); (try replace k7 := k7.ext hE); (try replace k8 := k8.ext hE); (try replace k9 := k9.ext hE); (try replace HE := Lib.hid (HE.out.trans hE)); (try replace r0 := r0.ext hE); (try replace r1 := r1.ext hE); (try replace r2 := r2.ext hE); (try replace r3 := r3.ext hE); (try replace r4 := r4.ext hE); (try replace r5 := r5.ext hE); (try replace r6 := r6.ext hE); replace hs0 := Nat.le_trans hs0 hE.size; clear hE
  refine seq_call ((cmk _)) rfl Tryd.func24 (by kernel_rfl) (by kernel_rfl) (by rfl) (by rfl) ?_; intro K hK; rintro e w' ⟨rfl, hE⟩; refine ⟨_, rfl, (Below.mono hE hs0), ?_⟩; simp only [Act.put, List.setIfInBounds_toArray, List.set_cons_zero, List.set_cons_succ]; refine hK _ _ ?_; clear hK K; (try replace h1 := h1.ext hE); (try replace h2 := h2.ext hE); (try replace h3 := h3.ext hE); (try replace h4 := h4.ext hE); (try replace h5 := h5.ext hE); (try replace h6 := h6.ext hE); (try replace h7 := h7.ext hE); (try replace h8 := h8.ext hE); (try replace h9 := h9.ext hE); (try replace k1 := k1.ext hE); (try replace k2 := k2.ext hE); (try replace k7 := k7.ext hE); (try replace k8 := k8.ext hE); (try replace k9 := k9.ext hE); (try replace HE := Lib.hid (HE.out.trans hE)); (try replace r0 := r0.ext hE); (try replace r1 := r1.ext hE); (try replace r2 := r2.ext hE); (try replace r3 := r3.ext hE); (try replace r4 := r4.ext hE); (try replace r5 := r5.ext hE); (try replace r6 := r6.ext hE); replace hs0 := Nat.le_trans hs0 hE.size; refine seq_done ⟨kept_ext hE, rfl, ?_⟩; clear hE
  intro x W hE; (try simp only [Act.put, List.setIfInBounds_toArray, List.set_cons_zero, List.set_cons_succ]); (try replace h1 := h1.ext hE); (try replace h2 := h2.ext hE); (try replace h3 := h3.ext hE); (try replace h4 := h4.ext hE); (try replace h5 := h5.ext hE); (try replace h6 := h6.ext hE); (try replace h7 := h7.ext hE); (try replace h8 := h8.ext hE); (try replace h9 := h9.ext hE); (try replace k1 := k1.ext hE); (try replace k2 := k2.ext hE); (try replace k7 := k7.ext hE); (try replace k8 := k8.ext hE); (try replace k9 := k9.ext hE); (try replace HE := Lib.hid (HE.out.trans hE)); (try replace r0 := r0.ext hE); (try replace r1 := r1.ext hE); (try replace r2 := r2.ext hE); (try replace r3 := r3.ext hE); (try replace r4 := r4.ext hE); (try replace r5 := r5.ext hE); (try replace r6 := r6.ext hE); replace hs0 := Nat.le_trans hs0 hE.size; clear hE
  refine seq_done ⟨rfl, rfl, ?_⟩; intro x W hE; (try simp only [Act.put, List.setIfInBounds_toArray, List.set_cons_zero, List.set_cons_succ]); (try replace h1 := h1.ext hE); (try replace h2 := h2.ext hE); (try replace h3 := h3.ext hE); (try replace h4 := h4.ext hE); (try replace h5 := h5.ext hE); (try replace h6 := h6.ext hE); (try replace h7 := h7.ext hE); (try replace h8 := h8.ext hE); (try replace h9 := h9.ext hE); (try replace k1 := k1.ext hE); (try replace k2 := k2.ext hE); (try replace k7 := k7.ext hE); (try replace k8 := k8.ext hE); (try replace k9 := k9.ext hE); (try replace HE := Lib.hid (HE.out.trans hE)); (try replace r0 := r0.ext hE); (try replace r1 := r1.ext hE); (try replace r2 := r2.ext hE); (try replace r3 := r3.ext hE); (try replace r4 := r4.ext hE); (try replace r5 := r5.ext hE); (try replace r6 := r6.ext hE); replace hs0 := Nat.le_trans hs0 hE.size; clear hE
  refine seq_call ((cwi _ _ _ r1)) rfl Tryd.func23 (by kernel_rfl) (by kernel_rfl) (by rfl) (by rfl) ?_; intro K hK; rintro e w' ⟨B4, d4, rfl, r3, -, hE⟩; refine ⟨_, rfl, (Below.mono hE hs0), ?_⟩; simp only [Act.put, List.setIfInBounds_toArray, List.set_cons_zero, List.set_cons_succ]; refine hK _ _ ?_; clear hK K; (try replace h1 := h1.ext hE); (try replace h2 := h2.ext hE); (try replace h3 := h3.ext hE); (try replace h4 := h4.ext hE); (try replace h5 := h5.ext hE); (try replace h6 := h6.ext hE); (try replace h7 := h7.ext hE); (try replace h8 := h8.ext hE); (try replace h9 := h9.ext hE); (try replace k1 := k1.ext hE); (try replace k2 := k2.ext hE); (try replace k7 := k7.ext hE); (try replace k8 := k8.ext hE); (try replace k9 := k9.ext hE); (try replace HE := Lib.hid (HE.out.trans hE)); (try replace r0 := r0.ext hE); (try replace r1 := r1.ext hE); (try replace r2 := r2.ext hE); (try replace r3 := r3.ext hE); (try replace r4 := r4.ext hE); (try replace r5 := r5.ext hE); (try replace r6 := r6.ext hE); replace hs0 := Nat.le_trans hs0 hE.size; refine seq_done ⟨kept_ext hE, rfl, ?_⟩; clear hE
  intro x W hE; (try simp only [Act.put, List.setIfInBounds_toArray, List.set_cons_zero, List.set_cons_succ]); (try replace h1 := h1.ext hE); (try replace h2 := h2.ext hE); (try replace h3 := h3.ext hE); (try replace h4 := h4.ext hE); (try replace h5 := h5.ext hE); (try replace h6 := h6.ext hE); (try replace h7 := h7.ext hE); (try replace h8 := h8.ext hE); (try replace h9 := h9.ext hE); (try replace k1 := k1.ext hE); (try replace k2 := k2.ext hE); (try replace k7 := k7.ext hE); (try replace k8 := k8.ext hE); (try replace k9 := k9.ext hE); (try replace HE := Lib.hid (HE.out.trans hE)); (try replace r0 := r0.ext hE); (try replace r1 := r1.ext hE); (try replace r2 := r2.ext hE); (try replace r3 := r3.ext hE); (try replace r4 := r4.ext hE); (try replace r5 := r5.ext hE); (try replace r6 := r6.ext hE); replace hs0 := Nat.le_trans hs0 hE.size; clear hE; refine seq_done ⟨rfl, rfl, ?_⟩; intro gq W hE hn hgB hEg; (try simp only [Act.put, List.setIfInBounds_toArray, List.set_cons_zero, List.set_cons_succ]); (try replace h1 := h1.ext hE); (try replace h2 := h2.ext hE); (try replace h3 := h3.ext hE); (try replace h4 := h4.ext hE); (try replace h5 := h5.ext hE); (try replace h6 := h6.ext hE); (try replace h7 := h7.ext hE); (try replace h8 := h8.ext hE); (try replace h9 := h9.ext hE); (try replace k1 := k1.ext hE); (try replace k2 := k2.ext hE); (try replace k7 := k7.ext hE); (try replace k8 := k8.ext hE); (try replace k9 := k9.ext hE); (try replace HE := Lib.hid (HE.out.trans hE)); (try replace r0 := r0.ext hE); (try replace r1 := r1.ext hE); (try replace r2 := r2.ext hE); (try replace r3 := r3.ext hE); (try replace r4 := r4.ext hE); (try replace r5 := r5.ext hE); (try replace r6 := r6.ext hE); replace hs0 := Nat.le_trans hs0 hE.size; clear hE
  have R2 := Lib.hid (r2.row' (cp_out r2.row hn) (Nat.le_refl gq) (Nat.lt_succ_self gq) #[.int .u64 16384, .slice B4 3 d4])
  have R3 := Lib.hid (r3.row' (cp_out r3.row hn) (Nat.le_refl gq) (Nat.lt_succ_self gq) #[.int .u64 16384, .slice B4 3 d4])
  clear r1 r2 r3
  refine seq_store_row rfl rfl rfl hn (by kernel_rfl) (by rfl) (by simp [Value.oneCell']) (by rfl) (below_row (Below.refl _ _) hgB _) ?_; intro K hK; simp only [Act.put, List.setIfInBounds_toArray, List.set_cons_zero, List.set_cons_succ]; refine hK _ _ ?_; clear hK K; (repeat (first | (refine seq_skip (by rfl) ?_; intro K hK; simp only [Act.put, List.setIfInBounds_toArray, List.set_cons_zero, List.set_cons_succ]; refine hK _ ?_; clear hK K) | (refine seq_skipc (by rfl) ?_; intro K hK; simp only [Act.put, List.setIfInBounds_toArray, List.set_cons_zero, List.set_cons_succ]; refine hK _ ?_; clear hK K) | (refine seq_read (by rfl) (by rfl) ?_; intro K hK; go_big_quiet_op; first | go_big_quiet_on | (refine ⟨_, fun _ _ => rfl, ?_⟩; go_big_quiet_on)))); refine seq_done ?_; (try replace h1 := h1.apart (k := gq) (by omega) (#[.int .u64 16384, .slice B4 3 d4])); (try replace h2 := h2.apart (k := gq) (by omega) (#[.int .u64 16384, .slice B4 3 d4])); (try replace h3 := h3.apart (k := gq) (by omega) (#[.int .u64 16384, .slice B4 3 d4])); (try replace h4 := h4.apart (k := gq) (by omega) (#[.int .u64 16384, .slice B4 3 d4])); (try replace h5 := h5.apart (k := gq) (by omega) (#[.int .u64 16384, .slice B4 3 d4])); (try replace h6 := h6.apart (k := gq) (by omega) (#[.int .u64 16384, .slice B4 3 d4])); (try replace h7 := h7.apart (k := gq) (by omega) (#[.int .u64 16384, .slice B4 3 d4])); (try replace h8 := h8.apart (k := gq) (by omega) (#[.int .u64 16384, .slice B4 3 d4])); (try replace h9 := h9.apart (k := gq) (by omega) (#[.int .u64 16384, .slice B4 3 d4])); (try replace k1 := k1.apart (k := gq) (by omega) (#[.int .u64 16384, .slice B4 3 d4])); (try replace k2 := k2.apart (k := gq) (by omega) (#[.int .u64 16384, .slice B4 3 d4])); (try replace k7 := k7.apart (k := gq) (by omega) (#[.int .u64 16384, .slice B4 3 d4])); (try replace k8 := k8.apart (k := gq) (by omega) (#[.int .u64 16384, .slice B4 3 d4])); (try replace k9 := k9.apart (k := gq) (by omega) (#[.int .u64 16384, .slice B4 3 d4])); have h8 := hn.row (#[.int .u64 16384, .slice B4 3 d4]); replace HE := Lib.hid (Ext.row HE.out (show _ ≤ gq by omega) (#[.int .u64 16384, .slice B4 3 d4])); generalize W.setRow gq (#[.int .u64 16384, .slice B4 3 d4]) = WF at *; clear hn hEg
  have r2 := R2.out
  have r3 := R3.out
  clear R2 R3 hgB hs0 hwB hwE cwi cmk
  go_wp2_with (first | (refine wpList_load_blk (by rfl) 25 _ rfl rfl h8 Tryd.underlying25 rfl (by kernel_rfl) ?_) | (refine wpList_load_blk (by rfl) 27 _ rfl rfl h4 Tryd.underlying27 rfl (by kernel_rfl) ?_))
  refine (cto _ _ _ r3 (hTE _ HE.out)).mono ?_
  rintro e w5 ⟨B5, d5, rfl, -, hE⟩
  (try replace h1 := h1.ext hE); (try replace h2 := h2.ext hE); (try replace h3 := h3.ext hE); (try replace h4 := h4.ext hE); (try replace h5 := h5.ext hE); (try replace h6 := h6.ext hE); (try replace h7 := h7.ext hE); (try replace h8 := h8.ext hE); (try replace h9 := h9.ext hE); (try replace k1 := k1.ext hE); (try replace k2 := k2.ext hE); (try replace k7 := k7.ext hE); (try replace k8 := k8.ext hE); (try replace k9 := k9.ext hE); (try replace HE := Lib.hid (HE.out.trans hE)); (try replace r0 := r0.ext hE); (try replace r1 := r1.ext hE); (try replace r2 := r2.ext hE); (try replace r3 := r3.ext hE); (try replace r4 := r4.ext hE); (try replace r5 := r5.ext hE); (try replace r6 := r6.ext hE)
  clear hE cto
  obtain ⟨zz1, zz2, zz3, hE, h9, k1, k2⟩ := nmps w5 (#[.int .u64 16384, .slice B5 515 d5]) (#[.int .u64 1, .int .i64 3, .int .u64 0]) (sptC SU); (try replace h1 := h1.ext hE); (try replace h2 := h2.ext hE); (try replace h3 := h3.ext hE); (try replace h4 := h4.ext hE); (try replace h5 := h5.ext hE); (try replace h6 := h6.ext hE); (try replace h7 := h7.ext hE); (try replace h8 := h8.ext hE); (try replace h9 := h9.ext hE); (try replace k1 := k1.ext hE); (try replace k2 := k2.ext hE); (try replace k7 := k7.ext hE); (try replace k8 := k8.ext hE); (try replace k9 := k9.ext hE); (try replace HE := Lib.hid (HE.out.trans hE)); (try replace r0 := r0.ext hE); (try replace r1 := r1.ext hE); (try replace r2 := r2.ext hE); (try replace r3 := r3.ext hE); (try replace r4 := r4.ext hE); (try replace r5 := r5.ext hE); (try replace r6 := r6.ext hE)
  clear hE
  go_wp2_with (first | (first | (refine wpList_store_blk rfl 25 _ _ rfl rfl rfl zz1 (by kernel_rfl) (by rfl) (by simp [Value.oneCell']) ?_) | (refine wpList_store_blk rfl 27 _ _ rfl rfl rfl zz2 (by kernel_rfl) (by rfl) (by simp [Value.oneCell']) ?_) | ((refine wpList_store_blk rfl 34 _ _ rfl rfl rfl zz3 (spt_info _) (by simp [sptC_size]) (sptC_one _) ?_); clear zz1 zz2 zz3; generalize (((((w5.alloc (.cells #[.int .u64 0, .slice none 0 0] 25)).alloc (.cells #[.int .u64 0, .int .i64 0, .int .u64 0] 27)).alloc (.cells #[.int .u64 0, .int .i64 0, .bool false, .bool false, .bool false, .bool false, .bool false, .bool false, .bool false, .bool false, .int .u64 0, .int .u64 0, .int .u64 0] 34)).setRow w5.heap.size (#[.int .u64 16384, .slice B5 515 d5])).setRow (w5.heap.size + 1) (#[.int .u64 1, .int .i64 3, .int .u64 0])).setRow (w5.heap.size + 1 + 1) (sptC SU) = X5 at *)) | (refine wpList_load_blk (by rfl) 25 _ rfl rfl h8 Tryd.underlying25 rfl (by kernel_rfl) ?_) | (refine wpList_load_blk (by rfl) 27 _ rfl rfl h4 Tryd.underlying27 rfl (by kernel_rfl) ?_))
  refine (cd3 _ _ _ r3 (hTE _ HE.out)).mono ?_
  rintro e w6 ⟨B6, d6, rfl, -, hE⟩
  (try replace h1 := h1.ext hE); (try replace h2 := h2.ext hE); (try replace h3 := h3.ext hE); (try replace h4 := h4.ext hE); (try replace h5 := h5.ext hE); (try replace h6 := h6.ext hE); (try replace h7 := h7.ext hE); (try replace h8 := h8.ext hE); (try replace h9 := h9.ext hE); (try replace k1 := k1.ext hE); (try replace k2 := k2.ext hE); (try replace k7 := k7.ext hE); (try replace k8 := k8.ext hE); (try replace k9 := k9.ext hE); (try replace HE := Lib.hid (HE.out.trans hE)); (try replace r0 := r0.ext hE); (try replace r1 := r1.ext hE); (try replace r2 := r2.ext hE); (try replace r3 := r3.ext hE); (try replace r4 := r4.ext hE); (try replace r5 := r5.ext hE); (try replace r6 := r6.ext hE)
  clear hE cd3 r3
  obtain ⟨zz1, zz2, zz3, hE, k7, k8, k9⟩ := nmps w6 (#[.int .u64 16384, .slice B6 3 d6]) (#[.int .u64 1, .int .i64 3, .int .u64 4]) (sptC ⟨0, 0, getP 0⟩); (try replace h1 := h1.ext hE); (try replace h2 := h2.ext hE); (try replace h3 := h3.ext hE); (try replace h4 := h4.ext hE); (try replace h5 := h5.ext hE); (try replace h6 := h6.ext hE); (try replace h7 := h7.ext hE); (try replace h8 := h8.ext hE); (try replace h9 := h9.ext hE); (try replace k1 := k1.ext hE); (try replace k2 := k2.ext hE); (try replace k7 := k7.ext hE); (try replace k8 := k8.ext hE); (try replace k9 := k9.ext hE); (try replace HE := Lib.hid (HE.out.trans hE)); (try replace r0 := r0.ext hE); (try replace r1 := r1.ext hE); (try replace r2 := r2.ext hE); (try replace r3 := r3.ext hE); (try replace r4 := r4.ext hE); (try replace r5 := r5.ext hE); (try replace r6 := r6.ext hE)
  clear hE
  go_upto_region 9 with (first | (first | (refine wpList_store_blk rfl 25 _ _ rfl rfl rfl zz1 (by kernel_rfl) (by rfl) (by simp [Value.oneCell']) ?_) | (refine wpList_store_blk rfl 27 _ _ rfl rfl rfl zz2 (by kernel_rfl) (by rfl) (by simp [Value.oneCell']) ?_) | ((refine wpList_store_blk rfl 34 _ _ rfl rfl rfl zz3 (spt_info _) (by simp [sptC_size]) (sptC_one _) ?_); clear zz1 zz2 zz3; generalize (((((w6.alloc (.cells #[.int .u64 0, .slice none 0 0] 25)).alloc (.cells #[.int .u64 0, .int .i64 0, .int .u64 0] 27)).alloc (.cells #[.int .u64 0, .int .i64 0, .bool false, .bool false, .bool false, .bool false, .bool false, .bool false, .bool false, .bool false, .int .u64 0, .int .u64 0, .int .u64 0] 34)).setRow w6.heap.size (#[.int .u64 16384, .slice B6 3 d6])).setRow (w6.heap.size + 1) (#[.int .u64 1, .int .i64 3, .int .u64 4])).setRow (w6.heap.size + 1 + 1) (sptC ⟨0, 0, getP 0⟩) = X6 at *)) | (refine wpList_load_blk (by rfl) 25 _ rfl rfl h8 Tryd.underlying25 rfl (by kernel_rfl) ?_))
  (try simp only [Act.put, List.setIfInBounds_toArray, List.set_cons_zero, List.set_cons_succ])
  simp only [List.append]
  clear k7 k8 k9
  have y4 : X6.cell? ⟨_, 2, none⟩ = some (.int .u64 4) := h4.cell 2
  go_wp2_with (first | (refine wpList_load_blk (by rfl) 34 _ rfl rfl h5 Tryd.underlying34 rfl (by kernel_rfl) ?_) | (refine wpList_build_as (by rfl) rfl (aw20_sb) ?_) | (refine wpList_cmp (op := .eql) (by rfl) 34 rfl rfl rfl (spt_guard) ((fun w => run_b (eql_spt w _ _) (dec_same _))) ?_) | (refine wpList_load_blk (by rfl) 25 _ rfl rfl h6 Tryd.underlying25 rfl (by kernel_rfl) ?_) | (refine wpList_load_blk (by rfl) 25 _ rfl rfl h1 Tryd.underlying25 rfl (by kernel_rfl) ?_))
  refine (csa _ _ _ r2).mono ?_
  rintro e wa ⟨rfl, hE⟩
  (try replace h1 := h1.ext hE); (try replace h2 := h2.ext hE); (try replace h3 := h3.ext hE); (try replace h4 := h4.ext hE); (try replace h5 := h5.ext hE); (try replace h6 := h6.ext hE); (try replace h7 := h7.ext hE); (try replace h8 := h8.ext hE); (try replace h9 := h9.ext hE); (try replace k1 := k1.ext hE); (try replace k2 := k2.ext hE); (try replace k7 := k7.ext hE); (try replace k8 := k8.ext hE); (try replace k9 := k9.ext hE); (try replace HE := Lib.hid (HE.out.trans hE)); (try replace r0 := r0.ext hE); (try replace r1 := r1.ext hE); (try replace r2 := r2.ext hE); (try replace r3 := r3.ext hE); (try replace r4 := r4.ext hE); (try replace r5 := r5.ext hE); (try replace r6 := r6.ext hE)
  clear hE csa y4
  have y0 : wa.cell? _ = some _ := (k2.cell 0).trans hu0
  have y9 : wa.cell? _ = some _ := (k2.cell 11).trans hu9
  have y1 : wa.cell? _ = some _ := (k2.cell 3).trans hu1
  have yt : wa.cell? ⟨_, 2, none⟩ = some (.int .u64 0) := k1.cell 2
  have yc : wa.cell? ⟨_, 1, none⟩ = some (.slice B5 515 d5) := h9.cell 1
  have yb : wa.cell? ⟨_, 1, none⟩ = some (.slice B4 3 d4) := h8.cell 1
  have hq : ∀ w, (binOp .eql 27 (.agg #[.int .u64 1, .int .i64 3, .int .u64 7]) (.agg #[.int .u64 1, .int .i64 3, .int .u64 7])).run Tryd.prog w = .ok (.bool true) w := fun w => eqlP w 1 3 7 7
  have hpg := pool_guard
  clear k1 k2 h3 h4 h5 h6 h8 h9 r2
  go_wp2_with (first | (refine wpList_load_blk (by rfl) 27 _ rfl rfl h7 Tryd.underlying27 rfl (by kernel_rfl) ?_) | (refine wpList_load_blk (by rfl) 27 _ rfl rfl h2 Tryd.underlying27 rfl (by kernel_rfl) ?_))
  go_ret
  exact ⟨rfl, HE.out⟩
end Go.Proofs.YticbjiddbjgikaaDoor
