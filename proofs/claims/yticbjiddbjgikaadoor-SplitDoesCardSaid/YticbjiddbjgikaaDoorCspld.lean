/- Package split: To. -/
import Derived.Test.YticbjiddbjgikaaDoorGcspl
import Derived.Test.YticbjiddbjgikaaDoorGsplm
import Derived.Test.YticbjiddbjgikaaDoorGrspm
import Derived.Test.YticbjiddbjgikaaDoorGctab
import Derived.Test.YticbjiddbjgikaaDoorGpte
import Derived.Test.YticbjiddbjgikaaDoorGinv
namespace Go.Proofs.YticbjiddbjgikaaDoor
open Go.ChangeShapes Go.WideShapes Go.ChangeAt Go.RowKit
set_option linter.unusedVariables false
set_option linter.unusedSimpArgs false
set_option maxRecDepth 10000
attribute [local irreducible] World.setRow World.alloc Blk
/-- what To answers -/
def ToP (S P M a k n t : Nat) (L : List (Nat × Nat)) (F : Nat) (D : Nat × List (Nat × Nat) × Nat) (w : World) (r : Ending) (w' : World) : Prop :=
  ∃ B d, Ext w w' ∧ ((D.1 = 0 ∧ r = .returned (.tuple #[.agg #[.int .u64 (S : Int), .slice B D.2.1.length d], (.agg #[.int .u64 (P : Int), .int .i64 (M : Int), .int .u64 (D.2.2 : Int)]), .agg (sptC (spotW D.2.1 k n t a)), .int .i64 0]) ∧ Mem w' S B D.2.1 d) ∨
    (D.1 ≠ 0 ∧ r = .returned (.tuple #[.agg #[.int .u64 (S : Int), .slice B L.length d], (.agg #[.int .u64 (P : Int), .int .i64 (M : Int), .int .u64 (F : Int)]), .agg (sptC ⟨0, 0, getP 0⟩), .int .i64 (D.1 : Int)]) ∧ Mem w' S B L d))
def freeP (g : Nat) (w' : World) : Nat := match w'.cell? ⟨g, 2, none⟩ with | some (Value.int _ q) => popN q.toNat 64 | _ => 0
theorem freeP_of {g : Nat} {w' : World} {P M G : Nat} (h : Blk w' g 27 #[.int .u64 (P : Int), .int .i64 (M : Int), .int .u64 (G : Int)]) : freeP g w' = popN G 64 := by
  unfold freeP
  rw [h.cell 2]
  simp
theorem args5 {A : Act} {x y z t p : Operand} {u v r s m : Value} (h1 : A.eval x = u) (h2 : A.eval y = v) (h3 : A.eval z = r) (h4 : A.eval t = s) (h5 : A.eval p = m) : [x, y, z, t, p].map A.eval = [u, v, r, s, m] := by simp [h1, h2, h3, h4, h5]
set_option maxHeartbeats 32000000 in
theorem to20_c {S P M F n t a k : Nat} {B : Option Addr} {L : List (Nat × Nat)} {d : Nat} (hfit : Fit S P M F n t L) (hpk : PoolK S P M) (hF : F < 2 ^ M) (hfew : L.length ≤ 33000) (htab : (tabs L n t).length + ((reachT L a k n t).2 - k) ≤ 63) (hn : n ≤ 2) (hk : k ≤ n) (ha : a < 18446744073709551616) (w : World) (hM : Mem w S B L d) (hT : Tab w ∧ Siz w) :
    Calls Tryd.prog 13 #[.agg #[.int .u64 (S : Int), .slice B L.length d], .agg #[.int .u64 (P : Int), .int .i64 (M : Int), .int .u64 (F : Int)], .int .u64 (t : Int), .int .i64 (n : Int), .int .u64 (a : Int), .int .i64 (k : Int)] w (ToP S P M a k n t L F (toS P a k n t 3 L F) w) := by
  have hp1 := hpk.p
  have hp2 := hpk.m
  have hSle := hM.ok.le
  have ht := hfit.tree.top
  have hD0 := Lib.hid (ToAt.start (a := a) (k := k) hfit hF hn htab)
  have hMo := fun W (e : Ext w W) => hM.ext e
  have hTo : ∀ W, Ext w W → Tab W ∧ Siz W := fun W e => ⟨Tab.below hT.1 e, hT.2.ext e⟩
  obtain ⟨D, hD⟩ : ∃ D, toS P a k n t 3 L F = D := ⟨_, rfl⟩
  rw [hD]
  have h1 : Blk (((((w.alloc (.cells #[.int .u64 (S : Int), .slice B L.length d] 25)).alloc (.cells #[.int .u64 (P : Int), .int .i64 (M : Int), .int .u64 (F : Int)] 27)).alloc (.cells #[.int .u64 0, .slice none 0 0] 25)).alloc (.cells #[.int .u64 0, .int .i64 0, .int .u64 0] 27)).alloc (.cells #[.int .u64 0, .int .i64 0, .bool false, .bool false, .bool false, .bool false, .bool false, .bool false, .bool false, .bool false, .int .u64 0, .int .u64 0, .int .u64 0] 34)) (w.heap.size) 25 #[.int .u64 (S : Int), .slice B L.length d] := ((((Blk.new w _ _).alloc _).alloc _).alloc _).alloc _
  have h2 : Blk (((((w.alloc (.cells #[.int .u64 (S : Int), .slice B L.length d] 25)).alloc (.cells #[.int .u64 (P : Int), .int .i64 (M : Int), .int .u64 (F : Int)] 27)).alloc (.cells #[.int .u64 0, .slice none 0 0] 25)).alloc (.cells #[.int .u64 0, .int .i64 0, .int .u64 0] 27)).alloc (.cells #[.int .u64 0, .int .i64 0, .bool false, .bool false, .bool false, .bool false, .bool false, .bool false, .bool false, .bool false, .int .u64 0, .int .u64 0, .int .u64 0] 34)) (w.heap.size + 1) 27 #[.int .u64 (P : Int), .int .i64 (M : Int), .int .u64 (F : Int)] := (((blk_at (by simp)).alloc _).alloc _).alloc _
  have k3 : Blk (((((w.alloc (.cells #[.int .u64 (S : Int), .slice B L.length d] 25)).alloc (.cells #[.int .u64 (P : Int), .int .i64 (M : Int), .int .u64 (F : Int)] 27)).alloc (.cells #[.int .u64 0, .slice none 0 0] 25)).alloc (.cells #[.int .u64 0, .int .i64 0, .int .u64 0] 27)).alloc (.cells #[.int .u64 0, .int .i64 0, .bool false, .bool false, .bool false, .bool false, .bool false, .bool false, .bool false, .bool false, .int .u64 0, .int .u64 0, .int .u64 0] 34)) (w.heap.size + 1 + 1) 25 #[.int .u64 0, .slice none 0 0] := ((blk_at (by simp)).alloc _).alloc _
  have k4 : Blk (((((w.alloc (.cells #[.int .u64 (S : Int), .slice B L.length d] 25)).alloc (.cells #[.int .u64 (P : Int), .int .i64 (M : Int), .int .u64 (F : Int)] 27)).alloc (.cells #[.int .u64 0, .slice none 0 0] 25)).alloc (.cells #[.int .u64 0, .int .i64 0, .int .u64 0] 27)).alloc (.cells #[.int .u64 0, .int .i64 0, .bool false, .bool false, .bool false, .bool false, .bool false, .bool false, .bool false, .bool false, .int .u64 0, .int .u64 0, .int .u64 0] 34)) (w.heap.size + 1 + 1 + 1) 27 #[.int .u64 0, .int .i64 0, .int .u64 0] := (blk_at (by simp)).alloc _
  have k5 : Blk (((((w.alloc (.cells #[.int .u64 (S : Int), .slice B L.length d] 25)).alloc (.cells #[.int .u64 (P : Int), .int .i64 (M : Int), .int .u64 (F : Int)] 27)).alloc (.cells #[.int .u64 0, .slice none 0 0] 25)).alloc (.cells #[.int .u64 0, .int .i64 0, .int .u64 0] 27)).alloc (.cells #[.int .u64 0, .int .i64 0, .bool false, .bool false, .bool false, .bool false, .bool false, .bool false, .bool false, .bool false, .int .u64 0, .int .u64 0, .int .u64 0] 34)) (w.heap.size + 1 + 1 + 1 + 1) 34 #[.int .u64 0, .int .i64 0, .bool false, .bool false, .bool false, .bool false, .bool false, .bool false, .bool false, .bool false, .int .u64 0, .int .u64 0, .int .u64 0] := blk_at (by simp)
  have HE := Lib.hid (show Ext w (((((w.alloc (.cells #[.int .u64 (S : Int), .slice B L.length d] 25)).alloc (.cells #[.int .u64 (P : Int), .int .i64 (M : Int), .int .u64 (F : Int)] 27)).alloc (.cells #[.int .u64 0, .slice none 0 0] 25)).alloc (.cells #[.int .u64 0, .int .i64 0, .int .u64 0] 27)).alloc (.cells #[.int .u64 0, .int .i64 0, .bool false, .bool false, .bool false, .bool false, .bool false, .bool false, .bool false, .bool false, .int .u64 0, .int .u64 0, .int .u64 0] 34)) from (((((Ext.refl w).alloc _).alloc _).alloc _).alloc _).alloc _)
  have r0 := hM.ext HE.out
  go_enter Tryd.func13, Tryd.ntmps13
  go_upto_region 1 with fail
  generalize (((((w.alloc (.cells #[.int .u64 (S : Int), .slice B L.length d] 25)).alloc (.cells #[.int .u64 (P : Int), .int .i64 (M : Int), .int .u64 (F : Int)] 27)).alloc (.cells #[.int .u64 0, .slice none 0 0] 25)).alloc (.cells #[.int .u64 0, .int .i64 0, .int .u64 0] 27)).alloc (.cells #[.int .u64 0, .int .i64 0, .bool false, .bool false, .bool false, .bool false, .bool false, .bool false, .bool false, .bool false, .int .u64 0, .int .u64 0, .int .u64 0] 34)) = W1 at *
  have l5 := k5.lt
  have cre0 := fun W (e : Ext w W) => treach_c (k := k) ha hn (Nat.le_trans hk hn) W hfit.tree (hM.ext e) (hT.2.ext e)
  (try simp only [List.append])
  refine wp_region_puts (X := (Nat → Nat) × Unit) (fun x => [(some 20, .agg #[.int .u64 (S : Int), .slice B L.length d]), (some 21, .agg #[.int .u64 (P : Int), .int .i64 (M : Int), .int .u64 (F : Int)]), (some 22, .agg #[.int .u64 (S : Int), .slice B L.length d]), (some 23, .int .u64 (t : Int)), (some 24, .int .i64 (n : Int)), (some 25, .int .u64 (a : Int)), (some 26, .int .i64 (k : Int)), (some 27, .agg (sptC (spotW L k n t a))), (some 16, .pointer (some ⟨x.1 0, 0, none⟩)), (some 17, .pointer (some ⟨x.1 1, 0, none⟩)), (some 18, .pointer (some ⟨x.1 2, 0, none⟩)), (none, undef), (none, undef), (none, undef)]) (fun x bs w => FB W1.drew 7 (fun _ _ => True) (fun _ _ => True) [⟨8, 11, 25, #[.int .u64 0, .slice none 0 0], fun _ => #[.int .u64 (S : Int), .slice B L.length d]⟩, ⟨9, 12, 27, #[.int .u64 0, .int .i64 0, .int .u64 0], fun _ => #[.int .u64 (P : Int), .int .i64 (M : Int), .int .u64 (F : Int)]⟩, ⟨10, 13, 34, #[.int .u64 0, .int .i64 0, .bool false, .bool false, .bool false, .bool false, .bool false, .bool false, .bool false, .bool false, .int .u64 0, .int .u64 0, .int .u64 0], fun _ => sptC (spotW L k n t a)⟩] x bs w ∧ Dep [] 7 bs) (by kernel_rfl) (by kernel_rfl) (fun _ => 0, ()) ⟨FB.start fun _ => not_yet, Dep.start _ _ _⟩ ?_ ?_
  · intro x bs wz q o hlen hk hbk hafter hFD
    obtain ⟨hF, hD⟩ := hFD
    have hlc : 7 < bs.length := by rw [hlen]; decide
    have hqn : q < 14 := by have := (List.getElem?_eq_some_iff.1 hk).1; simpa using this
    have hq : q = 0 ∨ q = 1 ∨ q = 2 ∨ q = 3 ∨ q = 4 ∨ q = 5 ∨ q = 6 ∨ q = 7 ∨ q = 8 ∨ q = 9 ∨ q = 10 ∨ q = 11 ∨ q = 12 ∨ q = 13 := by omega
    clear hqn hlen
    rcases hq with rfl | rfl | rfl | rfl | rfl | rfl | rfl | rfl | rfl | rfl | rfl | rfl | rfl | rfl
    · obtain rfl := Option.some.inj hk
      refine op_load rfl ((eval_out (by rfl)).trans rfl) (h1.ext (Ext.of_drew hF.e)) rfl Tryd.underlying25 (by kernel_rfl) (next_at x rfl (by kernel_rfl) hbk rfl (fun _ _ => rfl) ⟨hF.read (by decide) (three_boxes (p := fun _ b => _ ≠ b.al ∧ _ ≠ b.st) (by simp) (by simp) (by simp)), (hD.set hlc fun hm => absurd hm (by decide))⟩)
    · obtain rfl := Option.some.inj hk
      refine op_load rfl ((eval_out (by rfl)).trans rfl) (h2.ext (Ext.of_drew hF.e)) rfl Tryd.underlying27 (by kernel_rfl) (next_at x rfl (by kernel_rfl) hbk rfl (fun _ _ => rfl) ⟨hF.read (by decide) (three_boxes (p := fun _ b => _ ≠ b.al ∧ _ ≠ b.st) (by simp) (by simp) (by simp)), (hD.set hlc fun hm => absurd hm (by decide))⟩)
    · obtain rfl := Option.some.inj hk
      refine op_load rfl ((eval_out (by rfl)).trans rfl) (h1.ext (Ext.of_drew hF.e)) rfl Tryd.underlying25 (by kernel_rfl) (next_at x rfl (by kernel_rfl) hbk rfl (fun _ _ => rfl) ⟨hF.read (by decide) (three_boxes (p := fun _ b => _ ≠ b.al ∧ _ ≠ b.st) (by simp) (by simp) (by simp)), (hD.set hlc fun hm => absurd hm (by decide))⟩)
    · obtain rfl := Option.some.inj hk
      refine op_read (x := .tmp 2) _ ((eval_out (by rfl)).trans rfl) (fun E he => by simp [go_sem, execOp, he]) (next_at x rfl (by kernel_rfl) hbk rfl (fun _ _ => rfl) ⟨hF.read (by decide) (three_boxes (p := fun _ b => _ ≠ b.al ∧ _ ≠ b.st) (by simp) (by simp) (by simp)), (hD.set hlc fun hm => absurd hm (by decide))⟩)
    · obtain rfl := Option.some.inj hk
      refine op_read (x := .tmp 3) _ ((eval_out (by rfl)).trans rfl) (fun E he => by simp [go_sem, execOp, he]) (next_at x rfl (by kernel_rfl) hbk rfl (fun _ _ => rfl) ⟨hF.read (by decide) (three_boxes (p := fun _ b => _ ≠ b.al ∧ _ ≠ b.st) (by simp) (by simp) (by simp)), (hD.set hlc fun hm => absurd hm (by decide))⟩)
    · obtain rfl := Option.some.inj hk
      refine op_read (x := .tmp 4) _ ((eval_out (by rfl)).trans rfl) (fun E he => by simp [go_sem, execOp, he]) (next_at x rfl (by kernel_rfl) hbk rfl (fun _ _ => rfl) ⟨hF.read (by decide) (three_boxes (p := fun _ b => _ ≠ b.al ∧ _ ≠ b.st) (by simp) (by simp) (by simp)), (hD.set hlc fun hm => absurd hm (by decide))⟩)
    · obtain rfl := Option.some.inj hk
      refine op_read (x := .tmp 5) _ ((eval_out (by rfl)).trans rfl) (fun E he => by simp [go_sem, execOp, he]) (next_at x rfl (by kernel_rfl) hbk rfl (fun _ _ => rfl) ⟨hF.read (by decide) (three_boxes (p := fun _ b => _ ≠ b.al ∧ _ ≠ b.st) (by simp) (by simp) (by simp)), (hD.set hlc fun hm => absurd hm (by decide))⟩)
    · obtain rfl := Option.some.inj hk
      refine op_call (cre0 wz (HE.out.trans (Ext.of_drew hF.e))) rfl Tryd.func27 rfl rfl (args5 (eval_at (i := 2) (by kernel_rfl) rfl (hafter ⟨2, .data⟩ (by simp) rfl) (Nat.le_of_ble_eq_true rfl)) (eval_at (i := 3) (by kernel_rfl) rfl (hafter ⟨3, .data⟩ (by simp) rfl) (Nat.le_of_ble_eq_true rfl)) (eval_at (i := 4) (by kernel_rfl) rfl (hafter ⟨4, .data⟩ (by simp) rfl) (Nat.le_of_ble_eq_true rfl)) (eval_at (i := 5) (by kernel_rfl) rfl (hafter ⟨5, .data⟩ (by simp) rfl) (Nat.le_of_ble_eq_true rfl)) (eval_at (i := 6) (by kernel_rfl) rfl (hafter ⟨6, .data⟩ (by simp) rfl) (Nat.le_of_ble_eq_true rfl))) ?_
      rintro r w2 ⟨rfl, hE⟩
      refine ⟨_, rfl, next_at (x.1, ()) rfl (by kernel_rfl) hbk rfl (hs_sets (D := []) (c := 7) ?_ hbk hD) ⟨hF.tell hbk hE trivial (fun _ _ _ => trivial) (three_boxes (p := fun _ b => b.al ≠ _ ∧ b.st ≠ _) (by simp) (by simp) (by simp)), (hD.set hlc fun hm => absurd hm (by decide))⟩⟩
      intro j hj
      simp only [List.mem_cons, List.not_mem_nil, or_false, not_or] at hj
      have hv : ([(some 20, .agg #[.int .u64 (S : Int), .slice B L.length d]), (some 21, .agg #[.int .u64 (P : Int), .int .i64 (M : Int), .int .u64 (F : Int)]), (some 22, .agg #[.int .u64 (S : Int), .slice B L.length d]), (some 23, .int .u64 (t : Int)), (some 24, .int .i64 (n : Int)), (some 25, .int .u64 (a : Int)), (some 26, .int .i64 (k : Int)), (some 27, .agg (sptC (spotW L k n t a))), (some 16, .pointer (some ⟨x.1 0, 0, none⟩)), (some 17, .pointer (some ⟨x.1 1, 0, none⟩)), (some 18, .pointer (some ⟨x.1 2, 0, none⟩)), (none, undef), (none, undef), (none, undef)] : List (Option Nat × Value)) = ([(some 20, .agg #[.int .u64 (S : Int), .slice B L.length d]), (some 21, .agg #[.int .u64 (P : Int), .int .i64 (M : Int), .int .u64 (F : Int)]), (some 22, .agg #[.int .u64 (S : Int), .slice B L.length d]), (some 23, .int .u64 (t : Int)), (some 24, .int .i64 (n : Int)), (some 25, .int .u64 (a : Int)), (some 26, .int .i64 (k : Int)), (some 27, .agg (sptC (spotW L k n t a))), (some 16, .pointer (some ⟨x.1 0, 0, none⟩)), (some 17, .pointer (some ⟨x.1 1, 0, none⟩)), (some 18, .pointer (some ⟨x.1 2, 0, none⟩)), (none, undef), (none, undef), (none, undef)]).set 7 (some 27, .agg (sptC (spotW L k n t a))) := rfl
      show ([(some 20, .agg #[.int .u64 (S : Int), .slice B L.length d]), (some 21, .agg #[.int .u64 (P : Int), .int .i64 (M : Int), .int .u64 (F : Int)]), (some 22, .agg #[.int .u64 (S : Int), .slice B L.length d]), (some 23, .int .u64 (t : Int)), (some 24, .int .i64 (n : Int)), (some 25, .int .u64 (a : Int)), (some 26, .int .i64 (k : Int)), (some 27, .agg (sptC (spotW L k n t a))), (some 16, .pointer (some ⟨x.1 0, 0, none⟩)), (some 17, .pointer (some ⟨x.1 1, 0, none⟩)), (some 18, .pointer (some ⟨x.1 2, 0, none⟩)), (none, undef), (none, undef), (none, undef)] : List (Option Nat × Value))[j]? = ([(some 20, .agg #[.int .u64 (S : Int), .slice B L.length d]), (some 21, .agg #[.int .u64 (P : Int), .int .i64 (M : Int), .int .u64 (F : Int)]), (some 22, .agg #[.int .u64 (S : Int), .slice B L.length d]), (some 23, .int .u64 (t : Int)), (some 24, .int .i64 (n : Int)), (some 25, .int .u64 (a : Int)), (some 26, .int .i64 (k : Int)), (some 27, .agg (sptC (spotW L k n t a))), (some 16, .pointer (some ⟨x.1 0, 0, none⟩)), (some 17, .pointer (some ⟨x.1 1, 0, none⟩)), (some 18, .pointer (some ⟨x.1 2, 0, none⟩)), (none, undef), (none, undef), (none, undef)] : List (Option Nat × Value))[j]?
      rw [hv, List.getElem?_set_ne (by omega)]
    · obtain rfl := Option.some.inj hk
      refine op_alloc #[.int .u64 0, .slice none 0 0] 25 (fun E => by simp [go_sem, execOp]) ?_
      exact next_at (fun j => if j = 0 then wz.heap.size else x.1 j, x.2) rfl (by kernel_rfl) hbk rfl (hs_set (k := 8) (v := (some 16, .pointer (some ⟨wz.heap.size, 0, none⟩))) rfl hbk) ⟨hF.make (i := 0) rfl hbk (by simp) (fun _ _ => trivial) (fun _ _ => trivial) (three_boxes (p := fun j b => (b.al = _ ↔ j = _) ∧ b.st ≠ _) (by simp) (by simp) (by simp)), (hD.set hlc fun hm => absurd hm (by decide))⟩
    · obtain rfl := Option.some.inj hk
      refine op_alloc #[.int .u64 0, .int .i64 0, .int .u64 0] 27 (fun E => by simp [go_sem, execOp]) ?_
      exact next_at (fun j => if j = 1 then wz.heap.size else x.1 j, x.2) rfl (by kernel_rfl) hbk rfl (hs_set (k := 9) (v := (some 17, .pointer (some ⟨wz.heap.size, 0, none⟩))) rfl hbk) ⟨hF.make (i := 1) rfl hbk (by simp) (fun _ _ => trivial) (fun _ _ => trivial) (three_boxes (p := fun j b => (b.al = _ ↔ j = _) ∧ b.st ≠ _) (by simp) (by simp) (by simp)), (hD.set hlc fun hm => absurd hm (by decide))⟩
    · obtain rfl := Option.some.inj hk
      refine op_alloc #[.int .u64 0, .int .i64 0, .bool false, .bool false, .bool false, .bool false, .bool false, .bool false, .bool false, .bool false, .int .u64 0, .int .u64 0, .int .u64 0] 34 (fun E => by simp [go_sem, execOp]) ?_
      exact next_at (fun j => if j = 2 then wz.heap.size else x.1 j, x.2) rfl (by kernel_rfl) hbk rfl (hs_set (k := 10) (v := (some 18, .pointer (some ⟨wz.heap.size, 0, none⟩))) rfl hbk) ⟨hF.make (i := 2) rfl hbk (by simp) (fun _ _ => trivial) (fun _ _ => trivial) (three_boxes (p := fun j b => (b.al = _ ↔ j = _) ∧ b.st ≠ _) (by simp) (by simp) (by simp)), (hD.set hlc fun hm => absurd hm (by decide))⟩
    · obtain rfl := Option.some.inj hk
      have h4 := hF.b 0 _ rfl (hafter ⟨8, .data⟩ (by simp) rfl)
      rw [if_neg (by show ¬ bs[11]? = some true; rw [hbk]; decide)] at h4
      refine op_store (g := x.1 0) (cs := #[.int .u64 (S : Int), .slice B L.length d]) rfl (eval_at (i := 8) (by kernel_rfl) rfl (hafter ⟨8, .data⟩ (by simp) rfl) (Nat.le_of_ble_eq_true rfl)) (eval_at (i := 0) (by kernel_rfl) rfl (hafter ⟨0, .data⟩ (by simp) rfl) (Nat.le_of_ble_eq_true rfl)) h4.2 (by kernel_rfl) (rfl) (by simp [Value.oneCell']) (next_at x rfl (by kernel_rfl) hbk rfl (fun _ _ => rfl) ⟨hF.fill (i := 0) rfl hbk (hafter ⟨8, .data⟩ (by simp) rfl) (hafter ⟨7, .chain⟩ (by simp) rfl) (by simp) (fun _ _ _ _ _ => trivial) (three_boxes (p := fun j b => (b.st = _ ↔ j = _) ∧ b.al ≠ _) (by simp) (by simp) (by simp)), (hD.set hlc fun hm => absurd hm (by decide))⟩)
    · obtain rfl := Option.some.inj hk
      have h4 := hF.b 1 _ rfl (hafter ⟨9, .data⟩ (by simp) rfl)
      rw [if_neg (by show ¬ bs[12]? = some true; rw [hbk]; decide)] at h4
      refine op_store (g := x.1 1) (cs := #[.int .u64 (P : Int), .int .i64 (M : Int), .int .u64 (F : Int)]) rfl (eval_at (i := 9) (by kernel_rfl) rfl (hafter ⟨9, .data⟩ (by simp) rfl) (Nat.le_of_ble_eq_true rfl)) (eval_at (i := 1) (by kernel_rfl) rfl (hafter ⟨1, .data⟩ (by simp) rfl) (Nat.le_of_ble_eq_true rfl)) h4.2 (by kernel_rfl) (rfl) (by simp [Value.oneCell']) (next_at x rfl (by kernel_rfl) hbk rfl (fun _ _ => rfl) ⟨hF.fill (i := 1) rfl hbk (hafter ⟨9, .data⟩ (by simp) rfl) ((hF.s 0 _ rfl (hafter ⟨11, .chain⟩ (by simp) rfl)).2) (by simp) (fun _ _ _ _ _ => trivial) (three_boxes (p := fun j b => (b.st = _ ↔ j = _) ∧ b.al ≠ _) (by simp) (by simp) (by simp)), (hD.set hlc fun hm => absurd hm (by decide))⟩)
    · obtain rfl := Option.some.inj hk
      have h4 := hF.b 2 _ rfl (hafter ⟨10, .data⟩ (by simp) rfl)
      rw [if_neg (by show ¬ bs[13]? = some true; rw [hbk]; decide)] at h4
      refine op_store (g := x.1 2) (cs := sptC (spotW L k n t a)) rfl (eval_at (i := 10) (by kernel_rfl) rfl (hafter ⟨10, .data⟩ (by simp) rfl) (Nat.le_of_ble_eq_true rfl)) (eval_at (i := 7) (by kernel_rfl) rfl (hafter ⟨7, .data⟩ (by simp) rfl) (Nat.le_of_ble_eq_true rfl)) h4.2 (spt_info _) (by simp [sptC_size]) (sptC_one _) (next_at x rfl (by kernel_rfl) hbk rfl (fun _ _ => rfl) ⟨hF.fill (i := 2) rfl hbk (hafter ⟨10, .data⟩ (by simp) rfl) (hafter ⟨7, .data⟩ (by simp) rfl) (by simp) (fun _ _ _ _ _ => trivial) (three_boxes (p := fun j b => (b.st = _ ↔ j = _) ∧ b.al ≠ _) (by simp) (by simp) (by simp)), (hD.set hlc fun hm => absurd hm (by decide))⟩)
  · rintro x wz ⟨hF, -⟩
    have hE := hF.e
    obtain ⟨b6, h6⟩ : _ ∧ Blk wz (x.1 0) 25 #[.int .u64 (S : Int), .slice B L.length d] := hF.b 0 _ rfl rfl
    obtain ⟨b7, h7⟩ : _ ∧ Blk wz (x.1 1) 27 #[.int .u64 (P : Int), .int .i64 (M : Int), .int .u64 (F : Int)] := hF.b 1 _ rfl rfl
    obtain ⟨b8, h8⟩ : _ ∧ Blk wz (x.1 2) 34 (sptC (spotW L k n t a)) := hF.b 2 _ rfl rfl
    have n67 : x.1 0 ≠ x.1 1 := hF.n 0 1 _ _ (by decide) rfl rfl rfl rfl
    have n68 : x.1 0 ≠ x.1 2 := hF.n 0 2 _ _ (by decide) rfl rfl rfl rfl
    have n78 : x.1 1 ≠ x.1 2 := hF.n 1 2 _ _ (by decide) rfl rfl rfl rfl
    have l5d : W1.heap.size ≤ W1.drew.heap.size := (Ext.refl W1).drew.size
    replace b6 : w.heap.size + 1 + 1 + 1 + 1 + 1 ≤ x.1 0 := by omega
    replace b7 : w.heap.size + 1 + 1 + 1 + 1 + 1 ≤ x.1 1 := by omega
    replace b8 : w.heap.size + 1 + 1 + 1 + 1 + 1 ≤ x.1 2 := by omega
    clear hF cre0 l5d l5
    simp only [List.length, List.replicate, putsB, if_true]
    generalize x.1 0 = g6 at *
    generalize x.1 1 = g7 at *
    generalize x.1 2 = g8 at *
    clear x
    replace hE := Ext.of_drew hE
    (try replace hz := hz.ext hE); (try replace hm := hm.ext hE); (try replace h1 := h1.ext hE); (try replace h2 := h2.ext hE); (try replace h4 := h4.ext hE); (try replace h6 := h6.ext hE); (try replace h7 := h7.ext hE); (try replace h8 := h8.ext hE); (try replace k3 := k3.ext hE); (try replace k4 := k4.ext hE); (try replace k5 := k5.ext hE); (try replace hM := hM.ext hE); (try replace HE := Lib.hid (HE.out.trans hE)); (try replace r0 := r0.ext hE); (try replace r1 := r1.ext hE); (try replace r2 := r2.ext hE); (try replace r3 := r3.ext hE); (try replace r4 := r4.ext hE); (try replace r5 := r5.ext hE); (try replace r6 := r6.ext hE)
    clear hE
    have u6 := h6.lt
    have u7 := h7.lt
    have u8 := h8.lt
    (try simp only [Act.put, List.setIfInBounds_toArray, List.set_cons_zero, List.set_cons_succ])
    obtain ⟨N0, hN0⟩ : ∃ N0, wz.heap.size = N0 := ⟨_, rfl⟩
    rw [hN0] at u6 u7 u8
    have hMt : Out w.heap.size N0 B L.length := hM.out N0
    have hNw : N0 ≤ wz.heap.size := by omega
    clear hN0 hM
    go_wp2_with fail
    go_loopw [] (fun wr => ∃ (g G : Nat) (K : List (Nat × Nat)) (B1 : Option Addr) (d1 : Nat), Hid (toS P a k n t g K G = D) ∧ Hid (ToAt S P M a k n t L K G g) ∧ Blk wr w.heap.size 25 #[.int .u64 (S : Int), .slice B L.length d] ∧ Blk wr (w.heap.size + 1) 27 #[.int .u64 (P : Int), .int .i64 (M : Int), .int .u64 (F : Int)] ∧
        Blk wr (w.heap.size + 1 + 1) 25 #[.int .u64 0, .slice none 0 0] ∧ Blk wr (w.heap.size + 1 + 1 + 1) 27 #[.int .u64 0, .int .i64 0, .int .u64 0] ∧ Blk wr (w.heap.size + 1 + 1 + 1 + 1) 34 #[.int .u64 0, .int .i64 0, .bool false, .bool false, .bool false, .bool false, .bool false, .bool false, .bool false, .bool false, .int .u64 0, .int .u64 0, .int .u64 0] ∧
        Blk wr g6 25 #[.int .u64 (S : Int), .slice B1 K.length d1] ∧ Blk wr g7 27 #[.int .u64 (P : Int), .int .i64 (M : Int), .int .u64 (G : Int)] ∧ Blk wr g8 34 (sptC (spotW K k n t a)) ∧ Mem wr S B1 K d1 ∧ Out w.heap.size N0 B1 K.length ∧ N0 ≤ wr.heap.size ∧ Ext w wr) (fun wr => freeP g7 wr)
    case atStart => exact ⟨3, F, L, B, d, Lib.hid hD, hD0, h1, h2, k3, k4, k5, h6, h7, h8, r0, hMt, hNw, HE.out⟩
    case round =>
      clear h1 h2 k3 k4 k5 h6 h7 h8 r0 HE hD0 hD hfit hF hMt hNw
      obtain ⟨g, G, K, B1, d1, hD, hA, h1, h2, k3, k4, k5, h6, h7, h8, r0, hO1, hNw, hE⟩ := hrel
      have HE := Lib.hid hE
      clear hE
      have hfr := Lib.hid (freeP_of h7)
      have hKl : K.length ≤ 35000 := by have := hA.out.len; omega
      have hst := to_stop (P := P) (a := a) (k := k) (n := n) (t := t) (g := g) (L := K) (F := G)
      have hno := fun c h0 => to_no (P := P) (a := a) (k := k) (n := n) (t := t) (g := g - 1) (L := K) (F := G) c h0
      have hsm := fun c => hA.out.some hk c
      have hnx := fun g' (e : g = g' + 1) h1 h2 h0 => ToAt.next hpk hn hk (by rw [← e]; exact hA.out) h1 h2 h0
      have hfit := Lib.hid hA.out.fit
      have hbits := Lib.hid hA.out.bits
      have hmem := Lib.hid (reach_mem K a k n t)
      have hr2 : (reachT K a k n t).2 ≤ n := tabs_le (reach_mem K a k n t)
      have hge : k ≤ (reachT K a k n t).2 := reach_ge K a k n t hk
      have hsp : spotW K k n t a = ⟨(reachT K a k n t).1, ((reachT K a k n t).2 : Int), tE K (reachT K a k n t).1 (ixN a (reachT K a k n t).2)⟩ := by unfold spotW; rfl
      obtain ⟨r, hr⟩ : ∃ r, reachT K a k n t = r := ⟨_, rfl⟩
      rw [hr] at hsp hst hno hsm hnx hmem hr2 hge
      have HSP : Hid (sptC (spotW K k n t a) = sptC ⟨r.1, (r.2 : Int), tE K r.1 (ixN a r.2)⟩) := Lib.hid (by rw [hsp])
      rw [hsp] at h8
      clear hsp hr hA
      obtain ⟨r1, r2⟩ := r
      simp only at hst hno hsm hnx hmem hr2 hge HSP h8
      have x1 : (sptC (⟨r1, (r2 : Int), tE K r1 (ixN a r2)⟩ : Spt))[1]? = some (.int .i64 (r2 : Int)) := sptC_lv _
      have hpt : (sptC (⟨r1, (r2 : Int), tE K r1 (ixN a r2)⟩ : Spt)).extract 2 (2 + (ptC (tE K r1 (ixN a r2))).size) = ptC (tE K r1 (ixN a r2)) := sptC_pt _
      have clf := fun W => leaf_c (tE K r1 (ixN a r2)) W
      have cln := fun W (m : Mem W S B1 K d1) (q : Tab W ∧ Siz W) => leaf20_no (P := P) (a := a) (SP := ⟨r1, (r2 : Int), tE K r1 (ixN a r2)⟩) hp2 W m q
      have cly := fun l (e : r2 = l + 1) h0 h2 W (m : Mem W S B1 K d1) (q : Tab W ∧ Siz W) => leaf20_yes (F := G) (a := a) (s := r1) (l := l) (n := n) (t := t) hpk hfit.out hbits.out h0 hn (by have := hmem.out; rw [e] at this; exact this) h2 ha hKl W m q
      by_cases c1 : r2 = k
      case pos =>
        have hz : Hid (D = (0, K, G)) := Lib.hid (by rw [← hD.out]; exact hst (.inl c1))
        obtain ⟨SP, hSP⟩ : ∃ SP : Spt, (⟨r1, (r2 : Int), tE K r1 (ixN a r2)⟩ : Spt) = SP := ⟨_, rfl⟩
        rw [hSP] at HSP x1 h8
        have d1' : decide (k < r2) = false := by simp; omega
        clear hst hno hsm hnx hmem clf cln cly hpt hSP hfit hbits hD c1
        have y1 := (h8.cell 1).trans x1
        go_wp2_with fail
        clear y1
        have hE := (Ext.refl wr).drew
        (try replace hz := hz.ext hE); (try replace hm := hm.ext hE); (try replace h1 := h1.ext hE); (try replace h2 := h2.ext hE); (try replace h4 := h4.ext hE); (try replace h6 := h6.ext hE); (try replace h7 := h7.ext hE); (try replace h8 := h8.ext hE); (try replace k3 := k3.ext hE); (try replace k4 := k4.ext hE); (try replace k5 := k5.ext hE); (try replace hM := hM.ext hE); (try replace HE := Lib.hid (HE.out.trans hE)); (try replace r0 := r0.ext hE); (try replace r1 := r1.ext hE); (try replace r2 := r2.ext hE); (try replace r3 := r3.ext hE); (try replace r4 := r4.ext hE); (try replace r5 := r5.ext hE); (try replace r6 := r6.ext hE)
        clear hE
        refine wp_region_seq [(0, false), (1, false), (2, false), (3, true), (4, true), (5, true), (6, false)] (Gap (w.heap.size + 1 + 1) (w.heap.size + 1 + 1 + 1 + 1 + 1)) (by kernel_rfl) (by kernel_rfl) (Gap.refl _ _) (fun _ _ _ => Gap.trans) ?_; simp only [List.map, nth_z, nth_s]
        generalize (wr).drew = wz at *
        refine seq_load rfl rfl (fun x hx => Gap.blk hx (h6) (by omega)) rfl Tryd.underlying25 (by kernel_rfl) (by rfl) ?_; intro K hK; simp only [Act.put, List.setIfInBounds_toArray, List.set_cons_zero, List.set_cons_succ]; refine hK _ ?_; clear hK K
        refine seq_load rfl rfl (fun x hx => Gap.blk hx (h7) (by omega)) rfl Tryd.underlying27 (by kernel_rfl) (by rfl) ?_; intro K hK; simp only [Act.put, List.setIfInBounds_toArray, List.set_cons_zero, List.set_cons_succ]; refine hK _ ?_; clear hK K
        (repeat (first | (refine seq_skip (by rfl) ?_; intro K hK; simp only [Act.put, List.setIfInBounds_toArray, List.set_cons_zero, List.set_cons_succ]; refine hK _ ?_; clear hK K) | (refine seq_skipc (by rfl) ?_; intro K hK; simp only [Act.put, List.setIfInBounds_toArray, List.set_cons_zero, List.set_cons_succ]; refine hK _ ?_; clear hK K) | (refine seq_read (by rfl) (by rfl) ?_; intro K hK; go_big_quiet_op; first | go_big_quiet_on | (refine ⟨_, fun _ _ => rfl, ?_⟩; go_big_quiet_on))))
        refine seq_load rfl rfl (fun x hx => Gap.blk hx (h8) (by omega)) rfl Tryd.underlying34 (spt_info _) (by rfl) ?_; intro K hK; simp only [Act.put, List.setIfInBounds_toArray, List.set_cons_zero, List.set_cons_succ]; refine hK _ ?_; clear hK K
        (repeat (first | (refine seq_skip (by rfl) ?_; intro K hK; simp only [Act.put, List.setIfInBounds_toArray, List.set_cons_zero, List.set_cons_succ]; refine hK _ ?_; clear hK K) | (refine seq_skipc (by rfl) ?_; intro K hK; simp only [Act.put, List.setIfInBounds_toArray, List.set_cons_zero, List.set_cons_succ]; refine hK _ ?_; clear hK K) | (refine seq_read (by rfl) (by rfl) ?_; intro K hK; go_big_quiet_op; first | go_big_quiet_on | (refine ⟨_, fun _ _ => rfl, ?_⟩; go_big_quiet_on))))
        refine seq_store_row rfl rfl rfl (k3) (by kernel_rfl) (by rfl) (by simp [Value.oneCell']) (by rfl) (Gap.row _ (by omega) (by omega) _) ?_; intro K hK; simp only [Act.put, List.setIfInBounds_toArray, List.set_cons_zero, List.set_cons_succ]; refine hK _ _ ?_; clear hK K
        replace k4 := k4.apart (show w.heap.size + 1 + 1 + 1 ≠ w.heap.size + 1 + 1 by omega) #[.int .u64 (S : Int), .slice B1 K.length d1]
        refine seq_store_row rfl rfl rfl (k4) (by kernel_rfl) (by rfl) (by simp [Value.oneCell']) (by rfl) (Gap.row _ (by omega) (by omega) _) ?_; intro K hK; simp only [Act.put, List.setIfInBounds_toArray, List.set_cons_zero, List.set_cons_succ]; refine hK _ _ ?_; clear hK K
        replace k5 := (k5.apart (show w.heap.size + 1 + 1 + 1 + 1 ≠ w.heap.size + 1 + 1 by omega) #[.int .u64 (S : Int), .slice B1 K.length d1]).apart (show w.heap.size + 1 + 1 + 1 + 1 ≠ w.heap.size + 1 + 1 + 1 by omega) #[.int .u64 (P : Int), .int .i64 (M : Int), .int .u64 (G : Int)]
        refine seq_store_row rfl rfl rfl (k5) (spt_info _) (by simp [sptC_size]) (sptC_one _) (by rfl) (Gap.row _ (by omega) (by omega) _) ?_; intro K hK; simp only [Act.put, List.setIfInBounds_toArray, List.set_cons_zero, List.set_cons_succ]; refine hK _ _ ?_; clear hK K
        (repeat (first | (refine seq_skip (by rfl) ?_; intro K hK; simp only [Act.put, List.setIfInBounds_toArray, List.set_cons_zero, List.set_cons_succ]; refine hK _ ?_; clear hK K) | (refine seq_skipc (by rfl) ?_; intro K hK; simp only [Act.put, List.setIfInBounds_toArray, List.set_cons_zero, List.set_cons_succ]; refine hK _ ?_; clear hK K) | (refine seq_read (by rfl) (by rfl) ?_; intro K hK; go_big_quiet_op; first | go_big_quiet_on | (refine ⟨_, fun _ _ => rfl, ?_⟩; go_big_quiet_on))))
        refine seq_done ?_
        go_wp2
        (try simp only [Exit.inBlock, Exit.then])
        (try rw [Exit.noGoto_ret])
        refine bodyPost_ret (results_ccct rfl _ _ rfl rfl rfl (((k3.row #[.int .u64 (S : Int), .slice B1 K.length d1]).apart (by omega) #[.int .u64 (P : Int), .int .i64 (M : Int), .int .u64 (G : Int)]).apart (by omega) (sptC SP)) ((k4.row #[.int .u64 (P : Int), .int .i64 (M : Int), .int .u64 (G : Int)]).apart (by omega) (sptC SP)) (k5.row (sptC SP)) Tryd.underlying25 rfl (by kernel_rfl) Tryd.underlying27 rfl (by kernel_rfl) Tryd.underlying34 rfl (spt_info _)) rfl ?_
        have hE2 := ((HE.out.row (show w.heap.size ≤ w.heap.size + 1 + 1 by omega) #[.int .u64 (S : Int), .slice B1 K.length d1]).row (show w.heap.size ≤ w.heap.size + 1 + 1 + 1 by omega) #[.int .u64 (P : Int), .int .i64 (M : Int), .int .u64 (G : Int)]).row (show w.heap.size ≤ w.heap.size + 1 + 1 + 1 + 1 by omega) ((sptC SP))
        have rf := ((r0.row' hO1 (show w.heap.size ≤ w.heap.size + 1 + 1 by omega) (by omega) #[.int .u64 (S : Int), .slice B1 K.length d1]).row' hO1 (show w.heap.size ≤ w.heap.size + 1 + 1 + 1 by omega) (by omega) #[.int .u64 (P : Int), .int .i64 (M : Int), .int .u64 (G : Int)]).row' hO1 (show w.heap.size ≤ w.heap.size + 1 + 1 + 1 + 1 by omega) (by omega) (sptC SP)
        exact ⟨B1, d1, hE2, .inl ⟨by rw [hz.out], by rw [hz.out, HSP.out]; rfl, by rw [hz.out]; exact rf⟩⟩
      have d1' : decide (k < r2) = true := by simp; omega
      cases hl : leafB (tE K r1 (ixN a r2))
      case false =>
        have hz : Hid (D = (0, K, G)) := Lib.hid (by rw [← hD.out]; exact hst (.inr hl))
        rw [hl] at clf
        obtain ⟨SP, hSP⟩ : ∃ SP : Spt, (⟨r1, (r2 : Int), tE K r1 (ixN a r2)⟩ : Spt) = SP := ⟨_, rfl⟩
        rw [hSP] at HSP x1 hpt h8
        obtain ⟨p, hp⟩ : ∃ p, tE K r1 (ixN a r2) = p := ⟨_, rfl⟩
        rw [hp] at hpt clf
        clear hst hno hsm hnx hmem cln cly hSP hfit hbits hD c1 hl hp
        have y1 := (h8.cell 1).trans x1
        go_wp2_with (refine wpList_load_part (by rfl) 32 _ rfl rfl h8 (hpt) Tryd.underlying32 rfl (pt_info _) ?_)
        refine (clf _).mono ?_
        rintro e w6 ⟨rfl, hE⟩
        (try replace hz := hz.ext hE); (try replace hm := hm.ext hE); (try replace h1 := h1.ext hE); (try replace h2 := h2.ext hE); (try replace h4 := h4.ext hE); (try replace h6 := h6.ext hE); (try replace h7 := h7.ext hE); (try replace h8 := h8.ext hE); (try replace k3 := k3.ext hE); (try replace k4 := k4.ext hE); (try replace k5 := k5.ext hE); (try replace hM := hM.ext hE); (try replace HE := Lib.hid (HE.out.trans hE)); (try replace r0 := r0.ext hE); (try replace r1 := r1.ext hE); (try replace r2 := r2.ext hE); (try replace r3 := r3.ext hE); (try replace r4 := r4.ext hE); (try replace r5 := r5.ext hE); (try replace r6 := r6.ext hE)
        clear hE clf y1
        go_wp2_with fail
        have hE := (Ext.refl w6).drew
        (try replace hz := hz.ext hE); (try replace hm := hm.ext hE); (try replace h1 := h1.ext hE); (try replace h2 := h2.ext hE); (try replace h4 := h4.ext hE); (try replace h6 := h6.ext hE); (try replace h7 := h7.ext hE); (try replace h8 := h8.ext hE); (try replace k3 := k3.ext hE); (try replace k4 := k4.ext hE); (try replace k5 := k5.ext hE); (try replace hM := hM.ext hE); (try replace HE := Lib.hid (HE.out.trans hE)); (try replace r0 := r0.ext hE); (try replace r1 := r1.ext hE); (try replace r2 := r2.ext hE); (try replace r3 := r3.ext hE); (try replace r4 := r4.ext hE); (try replace r5 := r5.ext hE); (try replace r6 := r6.ext hE)
        clear hE
        refine wp_region_seq [(0, false), (1, false), (2, false), (3, true), (4, true), (5, true), (6, false)] (Gap (w.heap.size + 1 + 1) (w.heap.size + 1 + 1 + 1 + 1 + 1)) (by kernel_rfl) (by kernel_rfl) (Gap.refl _ _) (fun _ _ _ => Gap.trans) ?_; simp only [List.map, nth_z, nth_s]
        generalize (w6).drew = wz at *
        refine seq_load rfl rfl (fun x hx => Gap.blk hx (h6) (by omega)) rfl Tryd.underlying25 (by kernel_rfl) (by rfl) ?_; intro K hK; simp only [Act.put, List.setIfInBounds_toArray, List.set_cons_zero, List.set_cons_succ]; refine hK _ ?_; clear hK K
        refine seq_load rfl rfl (fun x hx => Gap.blk hx (h7) (by omega)) rfl Tryd.underlying27 (by kernel_rfl) (by rfl) ?_; intro K hK; simp only [Act.put, List.setIfInBounds_toArray, List.set_cons_zero, List.set_cons_succ]; refine hK _ ?_; clear hK K
        (repeat (first | (refine seq_skip (by rfl) ?_; intro K hK; simp only [Act.put, List.setIfInBounds_toArray, List.set_cons_zero, List.set_cons_succ]; refine hK _ ?_; clear hK K) | (refine seq_skipc (by rfl) ?_; intro K hK; simp only [Act.put, List.setIfInBounds_toArray, List.set_cons_zero, List.set_cons_succ]; refine hK _ ?_; clear hK K) | (refine seq_read (by rfl) (by rfl) ?_; intro K hK; go_big_quiet_op; first | go_big_quiet_on | (refine ⟨_, fun _ _ => rfl, ?_⟩; go_big_quiet_on))))
        refine seq_load rfl rfl (fun x hx => Gap.blk hx (h8) (by omega)) rfl Tryd.underlying34 (spt_info _) (by rfl) ?_; intro K hK; simp only [Act.put, List.setIfInBounds_toArray, List.set_cons_zero, List.set_cons_succ]; refine hK _ ?_; clear hK K
        (repeat (first | (refine seq_skip (by rfl) ?_; intro K hK; simp only [Act.put, List.setIfInBounds_toArray, List.set_cons_zero, List.set_cons_succ]; refine hK _ ?_; clear hK K) | (refine seq_skipc (by rfl) ?_; intro K hK; simp only [Act.put, List.setIfInBounds_toArray, List.set_cons_zero, List.set_cons_succ]; refine hK _ ?_; clear hK K) | (refine seq_read (by rfl) (by rfl) ?_; intro K hK; go_big_quiet_op; first | go_big_quiet_on | (refine ⟨_, fun _ _ => rfl, ?_⟩; go_big_quiet_on))))
        refine seq_store_row rfl rfl rfl (k3) (by kernel_rfl) (by rfl) (by simp [Value.oneCell']) (by rfl) (Gap.row _ (by omega) (by omega) _) ?_; intro K hK; simp only [Act.put, List.setIfInBounds_toArray, List.set_cons_zero, List.set_cons_succ]; refine hK _ _ ?_; clear hK K
        replace k4 := k4.apart (show w.heap.size + 1 + 1 + 1 ≠ w.heap.size + 1 + 1 by omega) #[.int .u64 (S : Int), .slice B1 K.length d1]
        refine seq_store_row rfl rfl rfl (k4) (by kernel_rfl) (by rfl) (by simp [Value.oneCell']) (by rfl) (Gap.row _ (by omega) (by omega) _) ?_; intro K hK; simp only [Act.put, List.setIfInBounds_toArray, List.set_cons_zero, List.set_cons_succ]; refine hK _ _ ?_; clear hK K
        replace k5 := (k5.apart (show w.heap.size + 1 + 1 + 1 + 1 ≠ w.heap.size + 1 + 1 by omega) #[.int .u64 (S : Int), .slice B1 K.length d1]).apart (show w.heap.size + 1 + 1 + 1 + 1 ≠ w.heap.size + 1 + 1 + 1 by omega) #[.int .u64 (P : Int), .int .i64 (M : Int), .int .u64 (G : Int)]
        refine seq_store_row rfl rfl rfl (k5) (spt_info _) (by simp [sptC_size]) (sptC_one _) (by rfl) (Gap.row _ (by omega) (by omega) _) ?_; intro K hK; simp only [Act.put, List.setIfInBounds_toArray, List.set_cons_zero, List.set_cons_succ]; refine hK _ _ ?_; clear hK K
        (repeat (first | (refine seq_skip (by rfl) ?_; intro K hK; simp only [Act.put, List.setIfInBounds_toArray, List.set_cons_zero, List.set_cons_succ]; refine hK _ ?_; clear hK K) | (refine seq_skipc (by rfl) ?_; intro K hK; simp only [Act.put, List.setIfInBounds_toArray, List.set_cons_zero, List.set_cons_succ]; refine hK _ ?_; clear hK K) | (refine seq_read (by rfl) (by rfl) ?_; intro K hK; go_big_quiet_op; first | go_big_quiet_on | (refine ⟨_, fun _ _ => rfl, ?_⟩; go_big_quiet_on))))
        refine seq_done ?_
        go_wp2
        (try simp only [Exit.inBlock, Exit.then])
        (try rw [Exit.noGoto_ret])
        refine bodyPost_ret (results_ccct rfl _ _ rfl rfl rfl (((k3.row #[.int .u64 (S : Int), .slice B1 K.length d1]).apart (by omega) #[.int .u64 (P : Int), .int .i64 (M : Int), .int .u64 (G : Int)]).apart (by omega) (sptC SP)) ((k4.row #[.int .u64 (P : Int), .int .i64 (M : Int), .int .u64 (G : Int)]).apart (by omega) (sptC SP)) (k5.row (sptC SP)) Tryd.underlying25 rfl (by kernel_rfl) Tryd.underlying27 rfl (by kernel_rfl) Tryd.underlying34 rfl (spt_info _)) rfl ?_
        have hE2 := ((HE.out.row (show w.heap.size ≤ w.heap.size + 1 + 1 by omega) #[.int .u64 (S : Int), .slice B1 K.length d1]).row (show w.heap.size ≤ w.heap.size + 1 + 1 + 1 by omega) #[.int .u64 (P : Int), .int .i64 (M : Int), .int .u64 (G : Int)]).row (show w.heap.size ≤ w.heap.size + 1 + 1 + 1 + 1 by omega) ((sptC SP))
        have rf := ((r0.row' hO1 (show w.heap.size ≤ w.heap.size + 1 + 1 by omega) (by omega) #[.int .u64 (S : Int), .slice B1 K.length d1]).row' hO1 (show w.heap.size ≤ w.heap.size + 1 + 1 + 1 by omega) (by omega) #[.int .u64 (P : Int), .int .i64 (M : Int), .int .u64 (G : Int)]).row' hO1 (show w.heap.size ≤ w.heap.size + 1 + 1 + 1 + 1 by omega) (by omega) (sptC SP)
        exact ⟨B1, d1, hE2, .inl ⟨by rw [hz.out], by rw [hz.out, HSP.out]; rfl, by rw [hz.out]; exact rf⟩⟩
      obtain ⟨g', hg⟩ := hsm c1
      have hnn : ¬ (r2 = k ∨ leafB (tE K r1 (ixN a r2)) = false) := fun c => by
        rcases c with c | c
        · exact c1 c
        · rw [hl] at c; cases c
      rw [hl] at clf
      by_cases h0 : G = 0
      case pos =>
        have hz : Hid (D = (8, K, G)) := Lib.hid (by
          have := hno hnn h0
          rw [show g - 1 + 1 = g by omega] at this
          rw [← hD.out]; exact this)
        have cln2 : ∀ W, Mem W S B1 K d1 → (Tab W ∧ Siz W) → Calls Tryd.prog 17 #[.agg #[.int .u64 (S : Int), .slice B1 K.length d1], .agg #[.int .u64 (P : Int), .int .i64 (M : Int), .int .u64 (G : Int)], .agg (sptC ⟨r1, (r2 : Int), tE K r1 (ixN a r2)⟩), .int .u64 (a : Int)] W fun r w' => r = .returned (.tuple #[.agg #[.int .u64 (S : Int), .slice B1 K.length d1], .agg #[.int .u64 (P : Int), .int .i64 (M : Int), .int .u64 (G : Int)], .int .i64 8]) ∧ Ext W w' := fun W m q => by rw [h0]; exact cln W m q
        obtain ⟨SP, hSP⟩ : ∃ SP : Spt, (⟨r1, (r2 : Int), tE K r1 (ixN a r2)⟩ : Spt) = SP := ⟨_, rfl⟩
        rw [hSP] at HSP x1 hpt cln2 h8
        obtain ⟨p, hp⟩ : ∃ p, tE K r1 (ixN a r2) = p := ⟨_, rfl⟩
        rw [hp] at hpt clf
        clear hst hno hsm hnx hmem cln cly hSP hfit hbits hD c1 hl hp hnn h0
        have y1 := (h8.cell 1).trans x1
        go_wp2_with (refine wpList_load_part (by rfl) 32 _ rfl rfl h8 (hpt) Tryd.underlying32 rfl (pt_info _) ?_)
        refine (clf _).mono ?_
        rintro e w6 ⟨rfl, hE⟩
        (try replace hz := hz.ext hE); (try replace hm := hm.ext hE); (try replace h1 := h1.ext hE); (try replace h2 := h2.ext hE); (try replace h4 := h4.ext hE); (try replace h6 := h6.ext hE); (try replace h7 := h7.ext hE); (try replace h8 := h8.ext hE); (try replace k3 := k3.ext hE); (try replace k4 := k4.ext hE); (try replace k5 := k5.ext hE); (try replace hM := hM.ext hE); (try replace HE := Lib.hid (HE.out.trans hE)); (try replace r0 := r0.ext hE); (try replace r1 := r1.ext hE); (try replace r2 := r2.ext hE); (try replace r3 := r3.ext hE); (try replace r4 := r4.ext hE); (try replace r5 := r5.ext hE); (try replace r6 := r6.ext hE)
        clear hE clf y1
        go_wp2_with (first | (refine wpList_load_blk (by rfl) 25 _ rfl rfl h6 Tryd.underlying25 rfl (by kernel_rfl) ?_) | (refine wpList_load_blk (by rfl) 27 _ rfl rfl h7 Tryd.underlying27 rfl (by kernel_rfl) ?_) | (refine wpList_load_blk (by rfl) 34 _ rfl rfl h8 Tryd.underlying34 rfl (by kernel_rfl) ?_))
        refine (cln2 _ r0 (hTo _ HE.out)).mono ?_
        rintro e w7 ⟨rfl, hE⟩
        (try replace hz := hz.ext hE); (try replace hm := hm.ext hE); (try replace h1 := h1.ext hE); (try replace h2 := h2.ext hE); (try replace h4 := h4.ext hE); (try replace h6 := h6.ext hE); (try replace h7 := h7.ext hE); (try replace h8 := h8.ext hE); (try replace k3 := k3.ext hE); (try replace k4 := k4.ext hE); (try replace k5 := k5.ext hE); (try replace hM := hM.ext hE); (try replace HE := Lib.hid (HE.out.trans hE)); (try replace r0 := r0.ext hE); (try replace r1 := r1.ext hE); (try replace r2 := r2.ext hE); (try replace r3 := r3.ext hE); (try replace r4 := r4.ext hE); (try replace r5 := r5.ext hE); (try replace r6 := r6.ext hE)
        clear hE cln2 r0
        have h7s := h7.apart (show g7 ≠ g6 by omega) #[.int .u64 (S : Int), .slice B1 K.length d1]
        have f1 := (h1.apart (show w.heap.size ≠ g6 by omega) #[.int .u64 (S : Int), .slice B1 K.length d1]).apart (show w.heap.size ≠ g7 by omega) #[.int .u64 (P : Int), .int .i64 (M : Int), .int .u64 (G : Int)]
        have f2 := (h2.apart (show w.heap.size + 1 ≠ g6 by omega) #[.int .u64 (S : Int), .slice B1 K.length d1]).apart (show w.heap.size + 1 ≠ g7 by omega) #[.int .u64 (P : Int), .int .i64 (M : Int), .int .u64 (G : Int)]
        have f3 := (k3.apart (show w.heap.size + 1 + 1 ≠ g6 by omega) #[.int .u64 (S : Int), .slice B1 K.length d1]).apart (show w.heap.size + 1 + 1 ≠ g7 by omega) #[.int .u64 (P : Int), .int .i64 (M : Int), .int .u64 (G : Int)]
        have f4 := (k4.apart (show w.heap.size + 1 + 1 + 1 ≠ g6 by omega) #[.int .u64 (S : Int), .slice B1 K.length d1]).apart (show w.heap.size + 1 + 1 + 1 ≠ g7 by omega) #[.int .u64 (P : Int), .int .i64 (M : Int), .int .u64 (G : Int)]
        have f5 := (k5.apart (show w.heap.size + 1 + 1 + 1 + 1 ≠ g6 by omega) #[.int .u64 (S : Int), .slice B1 K.length d1]).apart (show w.heap.size + 1 + 1 + 1 + 1 ≠ g7 by omega) #[.int .u64 (P : Int), .int .i64 (M : Int), .int .u64 (G : Int)]
        have HEf := Lib.hid ((HE.out.row (show w.heap.size ≤ g6 by omega) #[.int .u64 (S : Int), .slice B1 K.length d1]).row (show w.heap.size ≤ g7 by omega) #[.int .u64 (P : Int), .int .i64 (M : Int), .int .u64 (G : Int)])
        go_wp2_with (first | (refine wpList_store_blk rfl 25 _ _ rfl rfl rfl h6 (by kernel_rfl) (by rfl) (by simp [Value.oneCell']) ?_) | (refine wpList_store_blk rfl 27 _ _ rfl rfl rfl h7s (by kernel_rfl) (by rfl) (by simp [Value.oneCell']) ?_))
        clear h1 h2 k3 k4 k5 h6 h7 h7s h8 HE
        have h1 := f1
        have h2 := f2
        have k3 := f3
        have k4 := f4
        have k5 := f5
        have HE := HEf
        clear f1 f2 f3 f4 f5 HEf
        generalize (w7.setRow g6 #[.int .u64 (S : Int), .slice B1 K.length d1]).setRow g7 #[.int .u64 (P : Int), .int .i64 (M : Int), .int .u64 (G : Int)] = w8 at *
        have hE := (Ext.refl w8).drew
        (try replace hz := hz.ext hE); (try replace hm := hm.ext hE); (try replace h1 := h1.ext hE); (try replace h2 := h2.ext hE); (try replace h4 := h4.ext hE); (try replace h6 := h6.ext hE); (try replace h7 := h7.ext hE); (try replace h8 := h8.ext hE); (try replace k3 := k3.ext hE); (try replace k4 := k4.ext hE); (try replace k5 := k5.ext hE); (try replace hM := hM.ext hE); (try replace HE := Lib.hid (HE.out.trans hE)); (try replace r0 := r0.ext hE); (try replace r1 := r1.ext hE); (try replace r2 := r2.ext hE); (try replace r3 := r3.ext hE); (try replace r4 := r4.ext hE); (try replace r5 := r5.ext hE); (try replace r6 := r6.ext hE)
        clear hE
        refine wp_region_seq [(0, false), (1, false), (2, false), (3, false), (4, true), (5, true), (6, true), (7, false)] (Gap (w.heap.size + 1 + 1) (w.heap.size + 1 + 1 + 1 + 1 + 1)) (by kernel_rfl) (by kernel_rfl) (Gap.refl _ _) (fun _ _ _ => Gap.trans) ?_; simp only [List.map, nth_z, nth_s]
        generalize (w8).drew = wz at *
        refine seq_load rfl rfl (fun x hx => Gap.blk hx (h1) (by omega)) rfl Tryd.underlying25 (by kernel_rfl) (by rfl) ?_; intro K hK; simp only [Act.put, List.setIfInBounds_toArray, List.set_cons_zero, List.set_cons_succ]; refine hK _ ?_; clear hK K
        refine seq_load rfl rfl (fun x hx => Gap.blk hx (h2) (by omega)) rfl Tryd.underlying27 (by kernel_rfl) (by rfl) ?_; intro K hK; simp only [Act.put, List.setIfInBounds_toArray, List.set_cons_zero, List.set_cons_succ]; refine hK _ ?_; clear hK K
        (repeat (first | (refine seq_skip (by rfl) ?_; intro K hK; simp only [Act.put, List.setIfInBounds_toArray, List.set_cons_zero, List.set_cons_succ]; refine hK _ ?_; clear hK K) | (refine seq_skipc (by rfl) ?_; intro K hK; simp only [Act.put, List.setIfInBounds_toArray, List.set_cons_zero, List.set_cons_succ]; refine hK _ ?_; clear hK K) | (refine seq_read (by rfl) (by rfl) ?_; intro K hK; go_big_quiet_op; first | go_big_quiet_on | (refine ⟨_, fun _ _ => rfl, ?_⟩; go_big_quiet_on))))
        refine seq_build_as rfl (zs_built) (by rfl) ?_; intro K hK; simp only [Act.put, List.setIfInBounds_toArray, List.set_cons_zero, List.set_cons_succ]; refine hK _ ?_; clear hK K
        (repeat (first | (refine seq_skip (by rfl) ?_; intro K hK; simp only [Act.put, List.setIfInBounds_toArray, List.set_cons_zero, List.set_cons_succ]; refine hK _ ?_; clear hK K) | (refine seq_skipc (by rfl) ?_; intro K hK; simp only [Act.put, List.setIfInBounds_toArray, List.set_cons_zero, List.set_cons_succ]; refine hK _ ?_; clear hK K) | (refine seq_read (by rfl) (by rfl) ?_; intro K hK; go_big_quiet_op; first | go_big_quiet_on | (refine ⟨_, fun _ _ => rfl, ?_⟩; go_big_quiet_on))))
        refine seq_store_row rfl rfl rfl (k3) (by kernel_rfl) (by rfl) (by simp [Value.oneCell']) (by rfl) (Gap.row _ (by omega) (by omega) _) ?_; intro K hK; simp only [Act.put, List.setIfInBounds_toArray, List.set_cons_zero, List.set_cons_succ]; refine hK _ _ ?_; clear hK K
        replace k4 := k4.apart (show w.heap.size + 1 + 1 + 1 ≠ w.heap.size + 1 + 1 by omega) #[.int .u64 (S : Int), .slice B L.length d]
        refine seq_store_row rfl rfl rfl (k4) (by kernel_rfl) (by rfl) (by simp [Value.oneCell']) (by rfl) (Gap.row _ (by omega) (by omega) _) ?_; intro K hK; simp only [Act.put, List.setIfInBounds_toArray, List.set_cons_zero, List.set_cons_succ]; refine hK _ _ ?_; clear hK K
        replace k5 := (k5.apart (show w.heap.size + 1 + 1 + 1 + 1 ≠ w.heap.size + 1 + 1 by omega) #[.int .u64 (S : Int), .slice B L.length d]).apart (show w.heap.size + 1 + 1 + 1 + 1 ≠ w.heap.size + 1 + 1 + 1 by omega) #[.int .u64 (P : Int), .int .i64 (M : Int), .int .u64 (F : Int)]
        refine seq_store_row rfl rfl rfl (k5) (spt_info _) (by simp [sptC_size]) (sptC_one _) (by rfl) (Gap.row _ (by omega) (by omega) _) ?_; intro K hK; simp only [Act.put, List.setIfInBounds_toArray, List.set_cons_zero, List.set_cons_succ]; refine hK _ _ ?_; clear hK K
        (repeat (first | (refine seq_skip (by rfl) ?_; intro K hK; simp only [Act.put, List.setIfInBounds_toArray, List.set_cons_zero, List.set_cons_succ]; refine hK _ ?_; clear hK K) | (refine seq_skipc (by rfl) ?_; intro K hK; simp only [Act.put, List.setIfInBounds_toArray, List.set_cons_zero, List.set_cons_succ]; refine hK _ ?_; clear hK K) | (refine seq_read (by rfl) (by rfl) ?_; intro K hK; go_big_quiet_op; first | go_big_quiet_on | (refine ⟨_, fun _ _ => rfl, ?_⟩; go_big_quiet_on))))
        refine seq_done ?_
        go_wp2
        (try simp only [Exit.inBlock, Exit.then])
        (try rw [Exit.noGoto_ret])
        refine bodyPost_ret (results_ccct rfl _ _ rfl rfl rfl (((k3.row #[.int .u64 (S : Int), .slice B L.length d]).apart (by omega) #[.int .u64 (P : Int), .int .i64 (M : Int), .int .u64 (F : Int)]).apart (by omega) (sptC ⟨0, 0, getP 0⟩)) ((k4.row #[.int .u64 (P : Int), .int .i64 (M : Int), .int .u64 (F : Int)]).apart (by omega) (sptC ⟨0, 0, getP 0⟩)) (k5.row (sptC ⟨0, 0, getP 0⟩)) Tryd.underlying25 rfl (by kernel_rfl) Tryd.underlying27 rfl (by kernel_rfl) Tryd.underlying34 rfl (spt_info _)) rfl ?_
        have hE2 := ((HE.out.row (show w.heap.size ≤ w.heap.size + 1 + 1 by omega) #[.int .u64 (S : Int), .slice B L.length d]).row (show w.heap.size ≤ w.heap.size + 1 + 1 + 1 by omega) #[.int .u64 (P : Int), .int .i64 (M : Int), .int .u64 (F : Int)]).row (show w.heap.size ≤ w.heap.size + 1 + 1 + 1 + 1 by omega) ((sptC ⟨0, 0, getP 0⟩))
        exact ⟨B, d, hE2, .inr ⟨by rw [hz.out]; simp, by rw [hz.out]; rfl, hMo _ hE2⟩⟩
      obtain ⟨l, hl2⟩ : ∃ l, r2 = l + 1 := ⟨r2 - 1, by omega⟩
      subst hl2
      subst hg
      have hkl1 : k ≤ l := Nat.le_of_lt_succ (Nat.lt_of_le_of_ne hge (Ne.symm c1))
      have d2' : decide ((k : Int) < (l : Int) + 1) = true := decide_eq_true (Int.lt_add_one_of_le (Int.ofNat_le.2 hkl1))
      clear hkl1
      obtain ⟨q1, q2, q3⟩ := hnx g' rfl c1 hl h0
      have Hq1 := Lib.hid q1
      have Hq2 := Lib.hid q2
      have Hq3 := Lib.hid q3
      have cyy := fun W m q => cly l rfl h0 hl W m q
      obtain ⟨SP, hSP⟩ : ∃ SP : Spt, (⟨r1, ((l + 1 : Nat) : Int), tE K r1 (ixN a (l + 1))⟩ : Spt) = SP := ⟨_, rfl⟩
      rw [hSP] at x1 hpt cyy h8
      obtain ⟨p, hp⟩ : ∃ p, tE K r1 (ixN a (l + 1)) = p := ⟨_, rfl⟩
      rw [hp] at hpt clf
      clear hst hno hsm hnx hmem cln cly hSP hfit hbits c1 hl hp hnn h0 q1 q2 q3 HSP
      generalize splS K (P + lowN' G) r1 (ixN a (l + 1)) (l + 1) = K2 at *
      generalize takeF G = G2 at *
      have cre2 := fun W B3 d3 (m : Mem W S B3 K2 d3) (e : Ext w W) => treach_c (k := k) ha hn (Nat.le_trans hk hn) W Hq2.out.fit.tree m (hTo W e).2
      have y1 := (h8.cell 1).trans x1
      go_wp2_with (refine wpList_load_part (by rfl) 32 _ rfl rfl h8 (hpt) Tryd.underlying32 rfl (pt_info _) ?_)
      refine (clf _).mono ?_
      rintro e w6 ⟨rfl, hE⟩
      have l7 : N0 ≤ w6.heap.size := Nat.le_trans hNw hE.size
      (try replace hz := hz.ext hE); (try replace hm := hm.ext hE); (try replace h1 := h1.ext hE); (try replace h2 := h2.ext hE); (try replace h4 := h4.ext hE); (try replace h6 := h6.ext hE); (try replace h7 := h7.ext hE); (try replace h8 := h8.ext hE); (try replace k3 := k3.ext hE); (try replace k4 := k4.ext hE); (try replace k5 := k5.ext hE); (try replace hM := hM.ext hE); (try replace HE := Lib.hid (HE.out.trans hE)); (try replace r0 := r0.ext hE); (try replace r1 := r1.ext hE); (try replace r2 := r2.ext hE); (try replace r3 := r3.ext hE); (try replace r4 := r4.ext hE); (try replace r5 := r5.ext hE); (try replace r6 := r6.ext hE)
      clear hE clf y1
      go_wp2_with (first | (refine wpList_load_blk (by rfl) 25 _ rfl rfl h6 Tryd.underlying25 rfl (by kernel_rfl) ?_) | (refine wpList_load_blk (by rfl) 27 _ rfl rfl h7 Tryd.underlying27 rfl (by kernel_rfl) ?_) | (refine wpList_load_blk (by rfl) 34 _ rfl rfl h8 Tryd.underlying34 rfl (by kernel_rfl) ?_))
      refine (cyy _ r0 (hTo _ HE.out)).mono ?_
      rintro e w7 ⟨B3, d3, rfl, r2', hO3, hE⟩
      have l8 := hE.size
      (try replace hz := hz.ext hE); (try replace hm := hm.ext hE); (try replace h1 := h1.ext hE); (try replace h2 := h2.ext hE); (try replace h4 := h4.ext hE); (try replace h6 := h6.ext hE); (try replace h7 := h7.ext hE); (try replace h8 := h8.ext hE); (try replace k3 := k3.ext hE); (try replace k4 := k4.ext hE); (try replace k5 := k5.ext hE); (try replace hM := hM.ext hE); (try replace HE := Lib.hid (HE.out.trans hE)); (try replace r0 := r0.ext hE); (try replace r1 := r1.ext hE); (try replace r2 := r2.ext hE); (try replace r3 := r3.ext hE); (try replace r4 := r4.ext hE); (try replace r5 := r5.ext hE); (try replace r6 := r6.ext hE)
      clear hE cyy r0
      have hO4 : Out w.heap.size N0 B3 K2.length := (hO3 w.heap.size).mono l7
      have h7s := h7.apart (show g7 ≠ g6 by omega) #[.int .u64 (S : Int), .slice B3 K2.length d3]
      have f1 := (h1.apart (show w.heap.size ≠ g6 by omega) #[.int .u64 (S : Int), .slice B3 K2.length d3]).apart (show w.heap.size ≠ g7 by omega) #[.int .u64 (P : Int), .int .i64 (M : Int), .int .u64 (G2 : Int)]
      have f2 := (h2.apart (show w.heap.size + 1 ≠ g6 by omega) #[.int .u64 (S : Int), .slice B3 K2.length d3]).apart (show w.heap.size + 1 ≠ g7 by omega) #[.int .u64 (P : Int), .int .i64 (M : Int), .int .u64 (G2 : Int)]
      have f3 := (k3.apart (show w.heap.size + 1 + 1 ≠ g6 by omega) #[.int .u64 (S : Int), .slice B3 K2.length d3]).apart (show w.heap.size + 1 + 1 ≠ g7 by omega) #[.int .u64 (P : Int), .int .i64 (M : Int), .int .u64 (G2 : Int)]
      have f4 := (k4.apart (show w.heap.size + 1 + 1 + 1 ≠ g6 by omega) #[.int .u64 (S : Int), .slice B3 K2.length d3]).apart (show w.heap.size + 1 + 1 + 1 ≠ g7 by omega) #[.int .u64 (P : Int), .int .i64 (M : Int), .int .u64 (G2 : Int)]
      have f5 := (k5.apart (show w.heap.size + 1 + 1 + 1 + 1 ≠ g6 by omega) #[.int .u64 (S : Int), .slice B3 K2.length d3]).apart (show w.heap.size + 1 + 1 + 1 + 1 ≠ g7 by omega) #[.int .u64 (P : Int), .int .i64 (M : Int), .int .u64 (G2 : Int)]
      have f8 := (h8.apart (show g8 ≠ g6 by omega) #[.int .u64 (S : Int), .slice B3 K2.length d3]).apart (show g8 ≠ g7 by omega) #[.int .u64 (P : Int), .int .i64 (M : Int), .int .u64 (G2 : Int)]
      have f6 := (h6.row #[.int .u64 (S : Int), .slice B3 K2.length d3]).apart n67 #[.int .u64 (P : Int), .int .i64 (M : Int), .int .u64 (G2 : Int)]
      have f7 := h7s.row #[.int .u64 (P : Int), .int .i64 (M : Int), .int .u64 (G2 : Int)]
      have HEf := Lib.hid ((HE.out.row (show w.heap.size ≤ g6 by omega) #[.int .u64 (S : Int), .slice B3 K2.length d3]).row (show w.heap.size ≤ g7 by omega) #[.int .u64 (P : Int), .int .i64 (M : Int), .int .u64 (G2 : Int)])
      have rf := (r2'.row' hO4 (show w.heap.size ≤ g6 by omega) u6 #[.int .u64 (S : Int), .slice B3 K2.length d3]).row' hO4 (show w.heap.size ≤ g7 by omega) u7 #[.int .u64 (P : Int), .int .i64 (M : Int), .int .u64 (G2 : Int)]
      have hNx : N0 ≤ ((w7.setRow g6 #[.int .u64 (S : Int), .slice B3 K2.length d3]).setRow g7 #[.int .u64 (P : Int), .int .i64 (M : Int), .int .u64 (G2 : Int)]).heap.size := Nat.le_trans (Nat.le_trans l7 l8) (by simp)
      clear h1 h2 k3 k4 k5 h8 HE hO3
      go_wp2_with (first | (refine wpList_load_blk (by rfl) 25 _ rfl rfl f6 Tryd.underlying25 rfl (by kernel_rfl) ?_) | (refine wpList_store_blk rfl 25 _ _ rfl rfl rfl h6 (by kernel_rfl) (by rfl) (by simp [Value.oneCell']) ?_) | (refine wpList_store_blk rfl 27 _ _ rfl rfl rfl h7s (by kernel_rfl) (by rfl) (by simp [Value.oneCell']) ?_))
      clear h6 h7 h7s r2'
      generalize (w7.setRow g6 #[.int .u64 (S : Int), .slice B3 K2.length d3]).setRow g7 #[.int .u64 (P : Int), .int .i64 (M : Int), .int .u64 (G2 : Int)] = w8 at *
      have h1 := f1
      have h2 := f2
      have h6 := f6
      have h7 := f7
      have h8 := f8
      have k3 := f3
      have k4 := f4
      have k5 := f5
      have r0 := rf
      have HE := HEf
      clear f1 f2 f3 f4 f5 f6 f7 f8 rf HEf
      refine (cre2 _ _ _ r0 HE.out).mono ?_
      rintro e w9 ⟨rfl, hE⟩
      have l9 := Nat.le_trans hNx hE.size
      (try replace hz := hz.ext hE); (try replace hm := hm.ext hE); (try replace h1 := h1.ext hE); (try replace h2 := h2.ext hE); (try replace h4 := h4.ext hE); (try replace h6 := h6.ext hE); (try replace h7 := h7.ext hE); (try replace h8 := h8.ext hE); (try replace k3 := k3.ext hE); (try replace k4 := k4.ext hE); (try replace k5 := k5.ext hE); (try replace hM := hM.ext hE); (try replace HE := Lib.hid (HE.out.trans hE)); (try replace r0 := r0.ext hE); (try replace r1 := r1.ext hE); (try replace r2 := r2.ext hE); (try replace r3 := r3.ext hE); (try replace r4 := r4.ext hE); (try replace r5 := r5.ext hE); (try replace r6 := r6.ext hE)
      clear hE cre2 hNx
      have f1 := h1.apart (show w.heap.size ≠ g8 by omega) (sptC (spotW K2 k n t a))
      have f2 := h2.apart (show w.heap.size + 1 ≠ g8 by omega) (sptC (spotW K2 k n t a))
      have f3 := k3.apart (show w.heap.size + 1 + 1 ≠ g8 by omega) (sptC (spotW K2 k n t a))
      have f4 := k4.apart (show w.heap.size + 1 + 1 + 1 ≠ g8 by omega) (sptC (spotW K2 k n t a))
      have f5 := k5.apart (show w.heap.size + 1 + 1 + 1 + 1 ≠ g8 by omega) (sptC (spotW K2 k n t a))
      have f6 := h6.apart n68 (sptC (spotW K2 k n t a))
      have f7 := h7.apart n78 (sptC (spotW K2 k n t a))
      have f8 := h8.row (sptC (spotW K2 k n t a))
      have rf := r0.row' hO4 (show w.heap.size ≤ g8 by omega) u8 (sptC (spotW K2 k n t a))
      have HEf := Lib.hid (HE.out.row (show w.heap.size ≤ g8 by omega) (sptC (spotW K2 k n t a)))
      have hNx : N0 ≤ (w9.setRow g8 (sptC (spotW K2 k n t a))).heap.size := by simp; exact l9
      have hff := Lib.hid (freeP_of f7)
      go_wp2_with (refine wpList_store_blk rfl 34 _ _ rfl rfl rfl h8 (spt_info _) (by simp [sptC_size]) (sptC_one _) ?_)
      go_roundw
      case rel => repeat (first | exact ⟨g', G2, K2, B3, d3, Lib.hid (by rw [← Hq1.out]; exact hD.out), Hq2, f1, f2, f3, f4, f5, f6, f7, f8, rf, hO4, hNx, HEf.out⟩ | exact ⟨⟨g', G2, K2, B3, d3, Lib.hid (by rw [← Hq1.out]; exact hD.out), Hq2, f1, f2, f3, f4, f5, f6, f7, f8, rf, hO4, hNx, HEf.out⟩, rfl⟩ | apply Exists.intro)
      case measure => rw [hff.out, hfr.out]; exact Hq3.out
end Go.Proofs.YticbjiddbjgikaaDoor
