/- atlasref20: To, over what Leaf answers. -/
import Derived.Test.YticbjiddbjgikaaDoorGsplm
import Derived.Test.YticbjiddbjgikaaDoorGrspm
namespace Go.Proofs.YticbjiddbjgikaaDoor
open Go.ChangeShapes Go.WideShapes Go.ChangeAt Go.RowKit
set_option linter.unusedVariables false
set_option linter.unusedSimpArgs false
set_option maxRecDepth 10000
attribute [local irreducible] World.setRow World.alloc Blk
/-- what Leaf answers -/
structure LeafC (S P M n t : Nat) : Prop where
  no : ∀ {L : List (Nat × Nat)} {B : Option Addr} {d s l a : Nat} (w : World), Mem w S B L d → Calls Tryd.prog 18 #[.agg #[.int .u64 (S : Int), .slice B L.length d], (.agg #[.int .u64 (P : Int), .int .i64 (M : Int), .int .u64 (0 : Int)]), .agg (sptC ⟨s, (l : Int), tE L s (ixN a l)⟩), .int .u64 (a : Int)] w fun r w' => ∃ B' d', r = .returned (.tuple #[.agg #[.int .u64 (S : Int), .slice B' L.length d'], (.agg #[.int .u64 (P : Int), .int .i64 (M : Int), .int .u64 (0 : Int)]), .int .i64 8]) ∧ Ext w w'
  yes : ∀ {L : List (Nat × Nat)} {B : Option Addr} {F d s l a : Nat} (w : World), Mem w S B L d → L.length ≤ 35000 → Fit S P M F n t L → F < 2 ^ M → F ≠ 0 → (s, l + 1) ∈ tabs L n t → leafB (tE L s (ixN a (l + 1))) = true → a < 18446744073709551616 →
    Calls Tryd.prog 18 #[.agg #[.int .u64 (S : Int), .slice B L.length d], (.agg #[.int .u64 (P : Int), .int .i64 (M : Int), .int .u64 (F : Int)]), .agg (sptC ⟨s, ((l + 1 : Nat) : Int), tE L s (ixN a (l + 1))⟩), .int .u64 (a : Int)] w fun r w' => ∃ B' d', r = .returned (.tuple #[.agg #[.int .u64 (S : Int), .slice B' (splS L (P + lowN' F) s (ixN a (l + 1)) (l + 1)).length d'], (.agg #[.int .u64 (P : Int), .int .i64 (M : Int), .int .u64 (takeF F : Int)]), .int .i64 0]) ∧
      Mem w' S B' (splS L (P + lowN' F) s (ixN a (l + 1)) (l + 1)) d' ∧ (∀ lo, Out lo w.heap.size B' (splS L (P + lowN' F) s (ixN a (l + 1)) (l + 1)).length) ∧ Ext w w'
/-- what To answers -/
def ToT (S P M a k n t : Nat) (L : List (Nat × Nat)) (F : Nat) (D : Nat × List (Nat × Nat) × Nat) (w : World) (r : Ending) (w' : World) : Prop :=
  ∃ B d, Ext w w' ∧ ((D.1 = 0 ∧ r = .returned (.tuple #[.agg #[.int .u64 (S : Int), .slice B D.2.1.length d], (.agg #[.int .u64 (P : Int), .int .i64 (M : Int), .int .u64 (D.2.2 : Int)]), .agg (sptC (spotW D.2.1 k n t a)), .int .i64 0]) ∧ Mem w' S B D.2.1 d) ∨
    (D.1 ≠ 0 ∧ r = .returned (.tuple #[.agg #[.int .u64 (S : Int), .slice B L.length d], (.agg #[.int .u64 (P : Int), .int .i64 (M : Int), .int .u64 (F : Int)]), .agg (sptC ⟨0, 0, getP 0⟩), .int .i64 (D.1 : Int)]) ∧ Mem w' S B L d))
def freeAt (g : Nat) (w' : World) : Nat := match w'.cell? ⟨g, 2, none⟩ with | some (Value.int _ q) => popN q.toNat 64 | _ => 0
theorem freeAt_of {g : Nat} {w' : World} {P M G : Nat} (h : Blk w' g 27 #[.int .u64 (P : Int), .int .i64 (M : Int), .int .u64 (G : Int)]) : freeAt g w' = popN G 64 := by
  unfold freeAt
  rw [h.cell 2]
  simp
set_option maxHeartbeats 16000000 in
theorem rto_c {S P M F n t a k : Nat} {B : Option Addr} {L : List (Nat × Nat)} {d : Nat} (C : LeafC S P M n t) (hfit : Fit S P M F n t L) (hpk : PoolK S P M) (hF : F < 2 ^ M) (hfew : L.length ≤ 33000) (htab : (tabs L n t).length ≤ 60) (hn : n ≤ 2) (hk : k ≤ n) (ha : a < 18446744073709551616) (w : World) (hM : Mem w S B L d) :
    Calls Tryd.prog 14 #[.agg #[.int .u64 (S : Int), .slice B L.length d], (.agg #[.int .u64 (P : Int), .int .i64 (M : Int), .int .u64 (F : Int)]), .int .u64 (t : Int), .int .i64 (n : Int), .int .u64 (a : Int), .int .i64 (k : Int)] w (ToT S P M a k n t L F (toS P a k n t 3 L F) w) := by
  have hp1 := hpk.p
  have hp2 := hpk.m
  have hSle := hM.ok.le
  have ht := hfit.tree.top
  have hD0 := Lib.hid (ToAt.start (a := a) (k := k) hfit hF hn (by have := tabs_le (reach_mem L a k n t); omega))
  have hMo := fun W (e : Ext w W) => hM.ext e
  have hMt := hM.out (w.heap.size + 1 + 1 + 1 + 1 + 1 + 1 + 1)
  have h1 : Blk (((((((w.alloc (.cells #[.int .u64 (S : Int), .slice B L.length d] 25)).alloc (.cells #[.int .u64 (P : Int), .int .i64 (M : Int), .int .u64 (F : Int)] 27)).alloc (.cells #[.int .u64 0, .slice none 0 0] 25)).alloc (.cells #[.int .u64 0, .int .i64 0, .int .u64 0] 27)).alloc (.cells #[.int .u64 0, .int .i64 0, .bool false, .bool false, .bool false, .bool false, .bool false, .bool false, .bool false, .bool false, .int .u64 0, .int .u64 0, .int .u64 0] 34)).alloc (.cells #[.int .u64 (S : Int), .slice B L.length d] 25)).alloc (.cells #[.int .u64 (P : Int), .int .i64 (M : Int), .int .u64 (F : Int)] 27)) w.heap.size 25 #[.int .u64 (S : Int), .slice B L.length d] := ((((((Blk.new w _ _).alloc _).alloc _).alloc _).alloc _).alloc _).alloc _
  have h2 : Blk (((((((w.alloc (.cells #[.int .u64 (S : Int), .slice B L.length d] 25)).alloc (.cells #[.int .u64 (P : Int), .int .i64 (M : Int), .int .u64 (F : Int)] 27)).alloc (.cells #[.int .u64 0, .slice none 0 0] 25)).alloc (.cells #[.int .u64 0, .int .i64 0, .int .u64 0] 27)).alloc (.cells #[.int .u64 0, .int .i64 0, .bool false, .bool false, .bool false, .bool false, .bool false, .bool false, .bool false, .bool false, .int .u64 0, .int .u64 0, .int .u64 0] 34)).alloc (.cells #[.int .u64 (S : Int), .slice B L.length d] 25)).alloc (.cells #[.int .u64 (P : Int), .int .i64 (M : Int), .int .u64 (F : Int)] 27)) (w.heap.size + 1) 27 #[.int .u64 (P : Int), .int .i64 (M : Int), .int .u64 (F : Int)] := (((((blk_at (by simp)).alloc _).alloc _).alloc _).alloc _).alloc _
  have k3 : Blk (((((((w.alloc (.cells #[.int .u64 (S : Int), .slice B L.length d] 25)).alloc (.cells #[.int .u64 (P : Int), .int .i64 (M : Int), .int .u64 (F : Int)] 27)).alloc (.cells #[.int .u64 0, .slice none 0 0] 25)).alloc (.cells #[.int .u64 0, .int .i64 0, .int .u64 0] 27)).alloc (.cells #[.int .u64 0, .int .i64 0, .bool false, .bool false, .bool false, .bool false, .bool false, .bool false, .bool false, .bool false, .int .u64 0, .int .u64 0, .int .u64 0] 34)).alloc (.cells #[.int .u64 (S : Int), .slice B L.length d] 25)).alloc (.cells #[.int .u64 (P : Int), .int .i64 (M : Int), .int .u64 (F : Int)] 27)) (w.heap.size + 1 + 1) 25 #[.int .u64 0, .slice none 0 0] := ((((blk_at (by simp)).alloc _).alloc _).alloc _).alloc _
  have k4 : Blk (((((((w.alloc (.cells #[.int .u64 (S : Int), .slice B L.length d] 25)).alloc (.cells #[.int .u64 (P : Int), .int .i64 (M : Int), .int .u64 (F : Int)] 27)).alloc (.cells #[.int .u64 0, .slice none 0 0] 25)).alloc (.cells #[.int .u64 0, .int .i64 0, .int .u64 0] 27)).alloc (.cells #[.int .u64 0, .int .i64 0, .bool false, .bool false, .bool false, .bool false, .bool false, .bool false, .bool false, .bool false, .int .u64 0, .int .u64 0, .int .u64 0] 34)).alloc (.cells #[.int .u64 (S : Int), .slice B L.length d] 25)).alloc (.cells #[.int .u64 (P : Int), .int .i64 (M : Int), .int .u64 (F : Int)] 27)) (w.heap.size + 1 + 1 + 1) 27 #[.int .u64 0, .int .i64 0, .int .u64 0] := (((blk_at (by simp)).alloc _).alloc _).alloc _
  have k5 : Blk (((((((w.alloc (.cells #[.int .u64 (S : Int), .slice B L.length d] 25)).alloc (.cells #[.int .u64 (P : Int), .int .i64 (M : Int), .int .u64 (F : Int)] 27)).alloc (.cells #[.int .u64 0, .slice none 0 0] 25)).alloc (.cells #[.int .u64 0, .int .i64 0, .int .u64 0] 27)).alloc (.cells #[.int .u64 0, .int .i64 0, .bool false, .bool false, .bool false, .bool false, .bool false, .bool false, .bool false, .bool false, .int .u64 0, .int .u64 0, .int .u64 0] 34)).alloc (.cells #[.int .u64 (S : Int), .slice B L.length d] 25)).alloc (.cells #[.int .u64 (P : Int), .int .i64 (M : Int), .int .u64 (F : Int)] 27)) (w.heap.size + 1 + 1 + 1 + 1) 34 #[.int .u64 0, .int .i64 0, .bool false, .bool false, .bool false, .bool false, .bool false, .bool false, .bool false, .bool false, .int .u64 0, .int .u64 0, .int .u64 0] := ((blk_at (by simp)).alloc _).alloc _
  have h6 : Blk (((((((w.alloc (.cells #[.int .u64 (S : Int), .slice B L.length d] 25)).alloc (.cells #[.int .u64 (P : Int), .int .i64 (M : Int), .int .u64 (F : Int)] 27)).alloc (.cells #[.int .u64 0, .slice none 0 0] 25)).alloc (.cells #[.int .u64 0, .int .i64 0, .int .u64 0] 27)).alloc (.cells #[.int .u64 0, .int .i64 0, .bool false, .bool false, .bool false, .bool false, .bool false, .bool false, .bool false, .bool false, .int .u64 0, .int .u64 0, .int .u64 0] 34)).alloc (.cells #[.int .u64 (S : Int), .slice B L.length d] 25)).alloc (.cells #[.int .u64 (P : Int), .int .i64 (M : Int), .int .u64 (F : Int)] 27)) (w.heap.size + 1 + 1 + 1 + 1 + 1) 25 #[.int .u64 (S : Int), .slice B L.length d] := (blk_at (by simp)).alloc _
  have h7 : Blk (((((((w.alloc (.cells #[.int .u64 (S : Int), .slice B L.length d] 25)).alloc (.cells #[.int .u64 (P : Int), .int .i64 (M : Int), .int .u64 (F : Int)] 27)).alloc (.cells #[.int .u64 0, .slice none 0 0] 25)).alloc (.cells #[.int .u64 0, .int .i64 0, .int .u64 0] 27)).alloc (.cells #[.int .u64 0, .int .i64 0, .bool false, .bool false, .bool false, .bool false, .bool false, .bool false, .bool false, .bool false, .int .u64 0, .int .u64 0, .int .u64 0] 34)).alloc (.cells #[.int .u64 (S : Int), .slice B L.length d] 25)).alloc (.cells #[.int .u64 (P : Int), .int .i64 (M : Int), .int .u64 (F : Int)] 27)) (w.heap.size + 1 + 1 + 1 + 1 + 1 + 1) 27 #[.int .u64 (P : Int), .int .i64 (M : Int), .int .u64 (F : Int)] := blk_at (by simp)
  have HE := Lib.hid (show Ext w (((((((w.alloc (.cells #[.int .u64 (S : Int), .slice B L.length d] 25)).alloc (.cells #[.int .u64 (P : Int), .int .i64 (M : Int), .int .u64 (F : Int)] 27)).alloc (.cells #[.int .u64 0, .slice none 0 0] 25)).alloc (.cells #[.int .u64 0, .int .i64 0, .int .u64 0] 27)).alloc (.cells #[.int .u64 0, .int .i64 0, .bool false, .bool false, .bool false, .bool false, .bool false, .bool false, .bool false, .bool false, .int .u64 0, .int .u64 0, .int .u64 0] 34)).alloc (.cells #[.int .u64 (S : Int), .slice B L.length d] 25)).alloc (.cells #[.int .u64 (P : Int), .int .i64 (M : Int), .int .u64 (F : Int)] 27)) from (((((((Ext.refl w).alloc _).alloc _).alloc _).alloc _).alloc _).alloc _).alloc _)
  have r0 := hM.ext HE.out
  go_enter Tryd.func14, Tryd.ntmps14
  go_wp2_with fail
  generalize ((((((w.alloc (.cells #[.int .u64 (S : Int), .slice B L.length d] 25)).alloc (.cells #[.int .u64 (P : Int), .int .i64 (M : Int), .int .u64 (F : Int)] 27)).alloc (.cells #[.int .u64 0, .slice none 0 0] 25)).alloc (.cells #[.int .u64 0, .int .i64 0, .int .u64 0] 27)).alloc (.cells #[.int .u64 0, .int .i64 0, .bool false, .bool false, .bool false, .bool false, .bool false, .bool false, .bool false, .bool false, .int .u64 0, .int .u64 0, .int .u64 0] 34)).alloc (.cells #[.int .u64 (S : Int), .slice B L.length d] 25)).alloc (.cells #[.int .u64 (P : Int), .int .i64 (M : Int), .int .u64 (F : Int)] 27) = W1 at *
  clear hM
  obtain ⟨D, hD⟩ : ∃ D, toS P a k n t 3 L F = D := ⟨_, rfl⟩
  rw [hD]
  go_loopw [] (fun wr => ∃ (g G : Nat) (K : List (Nat × Nat)) (B1 : Option Addr) (d1 : Nat), Hid (toS P a k n t g K G = D) ∧ Hid (ToAt S P M a k n t L K G g) ∧ Blk wr w.heap.size 25 #[.int .u64 (S : Int), .slice B L.length d] ∧ Blk wr (w.heap.size + 1) 27 #[.int .u64 (P : Int), .int .i64 (M : Int), .int .u64 (F : Int)] ∧
      Blk wr (w.heap.size + 1 + 1) 25 #[.int .u64 0, .slice none 0 0] ∧ Blk wr (w.heap.size + 1 + 1 + 1) 27 #[.int .u64 0, .int .i64 0, .int .u64 0] ∧ Blk wr (w.heap.size + 1 + 1 + 1 + 1) 34 #[.int .u64 0, .int .i64 0, .bool false, .bool false, .bool false, .bool false, .bool false, .bool false, .bool false, .bool false, .int .u64 0, .int .u64 0, .int .u64 0] ∧
      Blk wr (w.heap.size + 1 + 1 + 1 + 1 + 1) 25 #[.int .u64 (S : Int), .slice B1 K.length d1] ∧ Blk wr (w.heap.size + 1 + 1 + 1 + 1 + 1 + 1) 27 #[.int .u64 (P : Int), .int .i64 (M : Int), .int .u64 (G : Int)] ∧ Mem wr S B1 K d1 ∧ Out w.heap.size (w.heap.size + 1 + 1 + 1 + 1 + 1 + 1 + 1) B1 K.length ∧ Ext w wr) (fun wr => freeAt (w.heap.size + 1 + 1 + 1 + 1 + 1 + 1) wr)
  case atStart => exact ⟨3, F, L, B, d, Lib.hid hD, hD0, h1, h2, k3, k4, k5, h6, h7, r0, hMt, HE.out⟩
  case round =>
    clear h1 h2 k3 k4 k5 h6 h7 r0 HE hD0 hD hfit hF
    obtain ⟨g, G, K, B1, d1, hD, hA, h1, h2, k3, k4, k5, h6, h7, r0, hO1, hE⟩ := hrel
    have HE := Lib.hid hE
    clear hE
    have l7 := h7.lt
    have hfr := Lib.hid (freeAt_of h7)
    have hKl : K.length ≤ 35000 := by have := hA.out.len; omega
    have cre := fun W (m : Mem W S B1 K d1) => rreach19_c (k := k) ha (by omega) n hn t W (by omega) m
    have hst := to_stop (P := P) (a := a) (k := k) (n := n) (t := t) (g := g) (L := K) (F := G)
    have hno := fun c h0 => to_no (P := P) (a := a) (k := k) (n := n) (t := t) (g := g - 1) (L := K) (F := G) c h0
    have hsm := fun c => hA.out.some hk c
    have hnx := fun g' (e : g = g' + 1) h1 h2 h0 => ToAt.next hpk hn hk (by rw [← e]; exact hA.out) h1 h2 h0
    have hfit := Lib.hid hA.out.fit
    have hbits := Lib.hid hA.out.bits
    have hmem := Lib.hid (reach_mem K a k n t)
    have hr2 : (reachT K a k n t).2 ≤ n := tabs_le (reach_mem K a k n t)
    have hge : k ≤ (reachT K a k n t).2 := reach_ge K a k n t hk
    have hsp : spotW K k n t a = ⟨(reachT K a k n t).1, ((reachT K a k n t).2 : Int), tE K (reachT K a k n t).1 (ixN a (reachT K a k n t).2)⟩ := by unfold spotW; rfl
    obtain ⟨r, hr⟩ : ∃ r, reachT K a k n t = r := ⟨_, rfl⟩
    rw [hr] at hsp hst hno hsm hnx hmem hr2 hge
    have HSP : Hid (sptC (spotW K k n t a) = sptC ⟨r.1, (r.2 : Int), tE K r.1 (ixN a r.2)⟩) := Lib.hid (by rw [hsp])
    rw [hsp] at cre
    clear hsp hr hA
    obtain ⟨r1, r2⟩ := r
    simp only at hst hno hsm hnx hmem hr2 hge HSP cre
    have x1 : (sptC (⟨r1, (r2 : Int), tE K r1 (ixN a r2)⟩ : Spt))[1]? = some (.int .i64 (r2 : Int)) := sptC_lv _
    have hpt : (sptC (⟨r1, (r2 : Int), tE K r1 (ixN a r2)⟩ : Spt)).extract 2 (2 + (ptC (tE K r1 (ixN a r2))).size) = ptC (tE K r1 (ixN a r2)) := sptC_pt _
    have clf := fun W => rleaf_c (tE K r1 (ixN a r2)) W
    have cln := fun W (m : Mem W S B1 K d1) => C.no (a := a) (s := r1) (l := r2) W m
    have cly := fun l (e : r2 = l + 1) h0 h2 W (m : Mem W S B1 K d1) => C.yes (F := G) (a := a) (s := r1) (l := l) W m hKl hfit.out hbits.out h0 (by have := hmem.out; rw [e] at this; exact this) h2 ha
    by_cases c1 : r2 = k
    case pos =>
      have hz : Hid (D = (0, K, G)) := Lib.hid (by rw [← hD.out]; exact hst (.inl c1))
      obtain ⟨SP, hSP⟩ : ∃ SP : Spt, (⟨r1, (r2 : Int), tE K r1 (ixN a r2)⟩ : Spt) = SP := ⟨_, rfl⟩
      rw [hSP] at cre HSP x1
      have d1' : ((r2 : Int) == (k : Int)) = true := by simp; omega
      clear hst hno hsm hnx hmem clf cln cly hpt hSP hfit hbits hD c1
      go_wp2_with (refine wpList_load_blk (by rfl) 25 _ rfl rfl h6 Tryd.underlying25 rfl (by kernel_rfl) ?_)
      refine (cre _ r0).mono ?_
      rintro e w5 ⟨rfl, hE⟩
      (try replace hz := hz.ext hE); (try replace h1 := h1.ext hE); (try replace h2 := h2.ext hE); (try replace h6 := h6.ext hE); (try replace h7 := h7.ext hE); (try replace h8 := h8.ext hE); (try replace h9 := h9.ext hE); (try replace k1 := k1.ext hE); (try replace k3 := k3.ext hE); (try replace k4 := k4.ext hE); (try replace k5 := k5.ext hE); (try replace hM := hM.ext hE); (try replace HE := Lib.hid (HE.out.trans hE)); (try replace r0 := r0.ext hE); (try replace r1 := r1.ext hE); (try replace r2 := r2.ext hE); (try replace r3 := r3.ext hE); (try replace r4 := r4.ext hE); (try replace r5 := r5.ext hE); (try replace r6 := r6.ext hE)
      clear hE cre
      have l5 := h7.lt
      have zz1 : Blk (w5.alloc (.cells #[.int .u64 0, .int .i64 0, .bool false, .bool false, .bool false, .bool false, .bool false, .bool false, .bool false, .bool false, .int .u64 0, .int .u64 0, .int .u64 0] 34)) w5.heap.size 34 #[.int .u64 0, .int .i64 0, .bool false, .bool false, .bool false, .bool false, .bool false, .bool false, .bool false, .bool false, .int .u64 0, .int .u64 0, .int .u64 0] := Blk.new _ _ _; have hE := ((Ext.refl w5).alloc (.cells #[.int .u64 0, .int .i64 0, .bool false, .bool false, .bool false, .bool false, .bool false, .bool false, .bool false, .bool false, .int .u64 0, .int .u64 0, .int .u64 0] 34)).row (Nat.le_refl w5.heap.size) (sptC SP); (try replace hz := hz.ext hE); (try replace h1 := h1.ext hE); (try replace h2 := h2.ext hE); (try replace h6 := h6.ext hE); (try replace h7 := h7.ext hE); (try replace h8 := h8.ext hE); (try replace h9 := h9.ext hE); (try replace k1 := k1.ext hE); (try replace k3 := k3.ext hE); (try replace k4 := k4.ext hE); (try replace k5 := k5.ext hE); (try replace hM := hM.ext hE); (try replace HE := Lib.hid (HE.out.trans hE)); (try replace r0 := r0.ext hE); (try replace r1 := r1.ext hE); (try replace r2 := r2.ext hE); (try replace r3 := r3.ext hE); (try replace r4 := r4.ext hE); (try replace r5 := r5.ext hE); (try replace r6 := r6.ext hE); clear hE; have h8 := zz1.row (sptC SP)
      have y1 := (h8.cell 1).trans x1
      go_wp2_with ((refine wpList_store_blk rfl 34 _ _ rfl rfl rfl zz1 (spt_info _) (by simp [sptC_size]) (sptC_one _) ?_); clear zz1; generalize (w5.alloc (.cells #[.int .u64 0, .int .i64 0, .bool false, .bool false, .bool false, .bool false, .bool false, .bool false, .bool false, .bool false, .int .u64 0, .int .u64 0, .int .u64 0] 34)).setRow w5.heap.size (sptC SP) = X at *)
      clear y1
      have hE := (Ext.refl X).drew
      (try replace hz := hz.ext hE); (try replace h1 := h1.ext hE); (try replace h2 := h2.ext hE); (try replace h6 := h6.ext hE); (try replace h7 := h7.ext hE); (try replace h8 := h8.ext hE); (try replace h9 := h9.ext hE); (try replace k1 := k1.ext hE); (try replace k3 := k3.ext hE); (try replace k4 := k4.ext hE); (try replace k5 := k5.ext hE); (try replace hM := hM.ext hE); (try replace HE := Lib.hid (HE.out.trans hE)); (try replace r0 := r0.ext hE); (try replace r1 := r1.ext hE); (try replace r2 := r2.ext hE); (try replace r3 := r3.ext hE); (try replace r4 := r4.ext hE); (try replace r5 := r5.ext hE); (try replace r6 := r6.ext hE)
      clear hE
      refine wp_region_seq [(0, false), (1, false), (2, false), (3, true), (4, true), (5, true), (6, false)] (Gap (w.heap.size + 1 + 1) (w.heap.size + 1 + 1 + 1 + 1 + 1)) (by kernel_rfl) (by kernel_rfl) (Gap.refl _ _) (fun _ _ _ => Gap.trans) ?_; simp only [List.map, nth_z, nth_s]
      generalize X.drew = wz at *
      refine seq_load rfl rfl (fun x hx => Gap.blk hx (h6) (by omega)) rfl Tryd.underlying25 (by kernel_rfl) (by rfl) ?_; intro K hK; simp only [Act.put, List.setIfInBounds_toArray, List.set_cons_zero, List.set_cons_succ]; refine hK _ ?_; clear hK K
      refine seq_load rfl rfl (fun x hx => Gap.blk hx (h7) (by omega)) rfl Tryd.underlying27 (by kernel_rfl) (by rfl) ?_; intro K hK; simp only [Act.put, List.setIfInBounds_toArray, List.set_cons_zero, List.set_cons_succ]; refine hK _ ?_; clear hK K
      (repeat (first | (refine seq_skip (by rfl) ?_; intro K hK; simp only [Act.put, List.setIfInBounds_toArray, List.set_cons_zero, List.set_cons_succ]; refine hK _ ?_; clear hK K) | (refine seq_skipc (by rfl) ?_; intro K hK; simp only [Act.put, List.setIfInBounds_toArray, List.set_cons_zero, List.set_cons_succ]; refine hK _ ?_; clear hK K) | (refine seq_read (by rfl) (by rfl) ?_; intro K hK; go_big_quiet_op; first | go_big_quiet_on | (refine ⟨_, fun _ _ => rfl, ?_⟩; go_big_quiet_on))))
      refine seq_load rfl rfl (fun x hx => Gap.blk hx (h8) (by omega)) rfl Tryd.underlying34 (spt_info _) (by rfl) ?_; intro K hK; simp only [Act.put, List.setIfInBounds_toArray, List.set_cons_zero, List.set_cons_succ]; refine hK _ ?_; clear hK K
      (repeat (first | (refine seq_skip (by rfl) ?_; intro K hK; simp only [Act.put, List.setIfInBounds_toArray, List.set_cons_zero, List.set_cons_succ]; refine hK _ ?_; clear hK K) | (refine seq_skipc (by rfl) ?_; intro K hK; simp only [Act.put, List.setIfInBounds_toArray, List.set_cons_zero, List.set_cons_succ]; refine hK _ ?_; clear hK K) | (refine seq_read (by rfl) (by rfl) ?_; intro K hK; go_big_quiet_op; first | go_big_quiet_on | (refine ⟨_, fun _ _ => rfl, ?_⟩; go_big_quiet_on))))
      refine seq_store_row rfl rfl rfl (k3) (by kernel_rfl) (by rfl) (by simp [Value.oneCell']) (by rfl) (Gap.row _ (by omega) (by omega) _) ?_; intro K hK; simp only [Act.put, List.setIfInBounds_toArray, List.set_cons_zero, List.set_cons_succ]; refine hK _ _ ?_; clear hK K
      replace k4 := k4.apart (show w.heap.size + 1 + 1 + 1 ≠ w.heap.size + 1 + 1 by omega) #[.int .u64 (S : Int), .slice B1 K.length d1]
      refine seq_store_row rfl rfl rfl (k4) (by kernel_rfl) (by rfl) (by simp [Value.oneCell']) (by rfl) (Gap.row _ (by omega) (by omega) _) ?_; intro K hK; simp only [Act.put, List.setIfInBounds_toArray, List.set_cons_zero, List.set_cons_succ]; refine hK _ _ ?_; clear hK K
      replace k5 := (k5.apart (show w.heap.size + 1 + 1 + 1 + 1 ≠ w.heap.size + 1 + 1 by omega) #[.int .u64 (S : Int), .slice B1 K.length d1]).apart (show w.heap.size + 1 + 1 + 1 + 1 ≠ w.heap.size + 1 + 1 + 1 by omega) #[.int .u64 (P : Int), .int .i64 (M : Int), .int .u64 (G : Int)]
      refine seq_store_row rfl rfl rfl (k5) (spt_info _) (by simp [sptC_size]) (sptC_one _) (by rfl) (Gap.row _ (by omega) (by omega) _) ?_; intro K hK; simp only [Act.put, List.setIfInBounds_toArray, List.set_cons_zero, List.set_cons_succ]; refine hK _ _ ?_; clear hK K
      (repeat (first | (refine seq_skip (by rfl) ?_; intro K hK; simp only [Act.put, List.setIfInBounds_toArray, List.set_cons_zero, List.set_cons_succ]; refine hK _ ?_; clear hK K) | (refine seq_skipc (by rfl) ?_; intro K hK; simp only [Act.put, List.setIfInBounds_toArray, List.set_cons_zero, List.set_cons_succ]; refine hK _ ?_; clear hK K) | (refine seq_read (by rfl) (by rfl) ?_; intro K hK; go_big_quiet_op; first | go_big_quiet_on | (refine ⟨_, fun _ _ => rfl, ?_⟩; go_big_quiet_on))))
      refine seq_done ?_
      go_wp2
      (try simp only [Exit.inBlock, Exit.then])
      (try rw [Exit.noGoto_ret])
      refine bodyPost_ret (results_ccct rfl _ _ rfl rfl rfl (((k3.row #[.int .u64 (S : Int), .slice B1 K.length d1]).apart (by omega) #[.int .u64 (P : Int), .int .i64 (M : Int), .int .u64 (G : Int)]).apart (by omega) (sptC SP)) ((k4.row #[.int .u64 (P : Int), .int .i64 (M : Int), .int .u64 (G : Int)]).apart (by omega) (sptC SP)) (k5.row (sptC SP)) Tryd.underlying25 rfl (by kernel_rfl) Tryd.underlying27 rfl (by kernel_rfl) Tryd.underlying34 rfl (spt_info _)) rfl ?_
      have hE2 := ((HE.out.row (show w.heap.size ≤ w.heap.size + 1 + 1 by omega) #[.int .u64 (S : Int), .slice B1 K.length d1]).row (show w.heap.size ≤ w.heap.size + 1 + 1 + 1 by omega) #[.int .u64 (P : Int), .int .i64 (M : Int), .int .u64 (G : Int)]).row (show w.heap.size ≤ w.heap.size + 1 + 1 + 1 + 1 by omega) ((sptC SP))
      have rf := ((r0.row' hO1 (show w.heap.size ≤ w.heap.size + 1 + 1 by omega) (by omega) #[.int .u64 (S : Int), .slice B1 K.length d1]).row' hO1 (show w.heap.size ≤ w.heap.size + 1 + 1 + 1 by omega) (by omega) #[.int .u64 (P : Int), .int .i64 (M : Int), .int .u64 (G : Int)]).row' hO1 (show w.heap.size ≤ w.heap.size + 1 + 1 + 1 + 1 by omega) (by omega) (sptC SP)
      exact ⟨B1, d1, hE2, .inl ⟨by rw [hz.out], by rw [hz.out, HSP.out]; rfl, by rw [hz.out]; exact rf⟩⟩
    have d1' : ((r2 : Int) == (k : Int)) = false := by simp; omega
    cases hl : leafB (tE K r1 (ixN a r2))
    case false =>
      have hz : Hid (D = (0, K, G)) := Lib.hid (by rw [← hD.out]; exact hst (.inr hl))
      rw [hl] at clf
      obtain ⟨SP, hSP⟩ : ∃ SP : Spt, (⟨r1, (r2 : Int), tE K r1 (ixN a r2)⟩ : Spt) = SP := ⟨_, rfl⟩
      rw [hSP] at cre HSP x1 hpt
      obtain ⟨p, hp⟩ : ∃ p, tE K r1 (ixN a r2) = p := ⟨_, rfl⟩
      rw [hp] at hpt clf
      clear hst hno hsm hnx hmem cln cly hSP hfit hbits hD c1 hl hp
      go_wp2_with (refine wpList_load_blk (by rfl) 25 _ rfl rfl h6 Tryd.underlying25 rfl (by kernel_rfl) ?_)
      refine (cre _ r0).mono ?_
      rintro e w5 ⟨rfl, hE⟩
      (try replace hz := hz.ext hE); (try replace h1 := h1.ext hE); (try replace h2 := h2.ext hE); (try replace h6 := h6.ext hE); (try replace h7 := h7.ext hE); (try replace h8 := h8.ext hE); (try replace h9 := h9.ext hE); (try replace k1 := k1.ext hE); (try replace k3 := k3.ext hE); (try replace k4 := k4.ext hE); (try replace k5 := k5.ext hE); (try replace hM := hM.ext hE); (try replace HE := Lib.hid (HE.out.trans hE)); (try replace r0 := r0.ext hE); (try replace r1 := r1.ext hE); (try replace r2 := r2.ext hE); (try replace r3 := r3.ext hE); (try replace r4 := r4.ext hE); (try replace r5 := r5.ext hE); (try replace r6 := r6.ext hE)
      clear hE cre
      have l5 := h7.lt
      have zz1 : Blk (w5.alloc (.cells #[.int .u64 0, .int .i64 0, .bool false, .bool false, .bool false, .bool false, .bool false, .bool false, .bool false, .bool false, .int .u64 0, .int .u64 0, .int .u64 0] 34)) w5.heap.size 34 #[.int .u64 0, .int .i64 0, .bool false, .bool false, .bool false, .bool false, .bool false, .bool false, .bool false, .bool false, .int .u64 0, .int .u64 0, .int .u64 0] := Blk.new _ _ _; have hE := ((Ext.refl w5).alloc (.cells #[.int .u64 0, .int .i64 0, .bool false, .bool false, .bool false, .bool false, .bool false, .bool false, .bool false, .bool false, .int .u64 0, .int .u64 0, .int .u64 0] 34)).row (Nat.le_refl w5.heap.size) (sptC SP); (try replace hz := hz.ext hE); (try replace h1 := h1.ext hE); (try replace h2 := h2.ext hE); (try replace h6 := h6.ext hE); (try replace h7 := h7.ext hE); (try replace h8 := h8.ext hE); (try replace h9 := h9.ext hE); (try replace k1 := k1.ext hE); (try replace k3 := k3.ext hE); (try replace k4 := k4.ext hE); (try replace k5 := k5.ext hE); (try replace hM := hM.ext hE); (try replace HE := Lib.hid (HE.out.trans hE)); (try replace r0 := r0.ext hE); (try replace r1 := r1.ext hE); (try replace r2 := r2.ext hE); (try replace r3 := r3.ext hE); (try replace r4 := r4.ext hE); (try replace r5 := r5.ext hE); (try replace r6 := r6.ext hE); clear hE; have h8 := zz1.row (sptC SP)
      have y1 := (h8.cell 1).trans x1
      go_wp2_with (first | ((refine wpList_store_blk rfl 34 _ _ rfl rfl rfl zz1 (spt_info _) (by simp [sptC_size]) (sptC_one _) ?_); clear zz1; generalize (w5.alloc (.cells #[.int .u64 0, .int .i64 0, .bool false, .bool false, .bool false, .bool false, .bool false, .bool false, .bool false, .bool false, .int .u64 0, .int .u64 0, .int .u64 0] 34)).setRow w5.heap.size (sptC SP) = X at *) | (refine wpList_load_part (by rfl) 32 _ rfl rfl h8 (hpt) Tryd.underlying32 rfl (pt_info _) ?_))
      clear y1
      refine (clf _).mono ?_
      rintro e w6 ⟨rfl, hE⟩
      (try replace hz := hz.ext hE); (try replace h1 := h1.ext hE); (try replace h2 := h2.ext hE); (try replace h6 := h6.ext hE); (try replace h7 := h7.ext hE); (try replace h8 := h8.ext hE); (try replace h9 := h9.ext hE); (try replace k1 := k1.ext hE); (try replace k3 := k3.ext hE); (try replace k4 := k4.ext hE); (try replace k5 := k5.ext hE); (try replace hM := hM.ext hE); (try replace HE := Lib.hid (HE.out.trans hE)); (try replace r0 := r0.ext hE); (try replace r1 := r1.ext hE); (try replace r2 := r2.ext hE); (try replace r3 := r3.ext hE); (try replace r4 := r4.ext hE); (try replace r5 := r5.ext hE); (try replace r6 := r6.ext hE)
      clear hE clf
      go_wp2_with fail
      have hE := (Ext.refl w6).drew
      (try replace hz := hz.ext hE); (try replace h1 := h1.ext hE); (try replace h2 := h2.ext hE); (try replace h6 := h6.ext hE); (try replace h7 := h7.ext hE); (try replace h8 := h8.ext hE); (try replace h9 := h9.ext hE); (try replace k1 := k1.ext hE); (try replace k3 := k3.ext hE); (try replace k4 := k4.ext hE); (try replace k5 := k5.ext hE); (try replace hM := hM.ext hE); (try replace HE := Lib.hid (HE.out.trans hE)); (try replace r0 := r0.ext hE); (try replace r1 := r1.ext hE); (try replace r2 := r2.ext hE); (try replace r3 := r3.ext hE); (try replace r4 := r4.ext hE); (try replace r5 := r5.ext hE); (try replace r6 := r6.ext hE)
      clear hE
      refine wp_region_seq [(0, false), (1, false), (2, false), (3, true), (4, true), (5, true), (6, false)] (Gap (w.heap.size + 1 + 1) (w.heap.size + 1 + 1 + 1 + 1 + 1)) (by kernel_rfl) (by kernel_rfl) (Gap.refl _ _) (fun _ _ _ => Gap.trans) ?_; simp only [List.map, nth_z, nth_s]
      generalize w6.drew = wz at *
      refine seq_load rfl rfl (fun x hx => Gap.blk hx (h6) (by omega)) rfl Tryd.underlying25 (by kernel_rfl) (by rfl) ?_; intro K hK; simp only [Act.put, List.setIfInBounds_toArray, List.set_cons_zero, List.set_cons_succ]; refine hK _ ?_; clear hK K
      refine seq_load rfl rfl (fun x hx => Gap.blk hx (h7) (by omega)) rfl Tryd.underlying27 (by kernel_rfl) (by rfl) ?_; intro K hK; simp only [Act.put, List.setIfInBounds_toArray, List.set_cons_zero, List.set_cons_succ]; refine hK _ ?_; clear hK K
      (repeat (first | (refine seq_skip (by rfl) ?_; intro K hK; simp only [Act.put, List.setIfInBounds_toArray, List.set_cons_zero, List.set_cons_succ]; refine hK _ ?_; clear hK K) | (refine seq_skipc (by rfl) ?_; intro K hK; simp only [Act.put, List.setIfInBounds_toArray, List.set_cons_zero, List.set_cons_succ]; refine hK _ ?_; clear hK K) | (refine seq_read (by rfl) (by rfl) ?_; intro K hK; go_big_quiet_op; first | go_big_quiet_on | (refine ⟨_, fun _ _ => rfl, ?_⟩; go_big_quiet_on))))
      refine seq_load rfl rfl (fun x hx => Gap.blk hx (h8) (by omega)) rfl Tryd.underlying34 (spt_info _) (by rfl) ?_; intro K hK; simp only [Act.put, List.setIfInBounds_toArray, List.set_cons_zero, List.set_cons_succ]; refine hK _ ?_; clear hK K
      (repeat (first | (refine seq_skip (by rfl) ?_; intro K hK; simp only [Act.put, List.setIfInBounds_toArray, List.set_cons_zero, List.set_cons_succ]; refine hK _ ?_; clear hK K) | (refine seq_skipc (by rfl) ?_; intro K hK; simp only [Act.put, List.setIfInBounds_toArray, List.set_cons_zero, List.set_cons_succ]; refine hK _ ?_; clear hK K) | (refine seq_read (by rfl) (by rfl) ?_; intro K hK; go_big_quiet_op; first | go_big_quiet_on | (refine ⟨_, fun _ _ => rfl, ?_⟩; go_big_quiet_on))))
      refine seq_store_row rfl rfl rfl (k3) (by kernel_rfl) (by rfl) (by simp [Value.oneCell']) (by rfl) (Gap.row _ (by omega) (by omega) _) ?_; intro K hK; simp only [Act.put, List.setIfInBounds_toArray, List.set_cons_zero, List.set_cons_succ]; refine hK _ _ ?_; clear hK K
      replace k4 := k4.apart (show w.heap.size + 1 + 1 + 1 ≠ w.heap.size + 1 + 1 by omega) #[.int .u64 (S : Int), .slice B1 K.length d1]
      refine seq_store_row rfl rfl rfl (k4) (by kernel_rfl) (by rfl) (by simp [Value.oneCell']) (by rfl) (Gap.row _ (by omega) (by omega) _) ?_; intro K hK; simp only [Act.put, List.setIfInBounds_toArray, List.set_cons_zero, List.set_cons_succ]; refine hK _ _ ?_; clear hK K
      replace k5 := (k5.apart (show w.heap.size + 1 + 1 + 1 + 1 ≠ w.heap.size + 1 + 1 by omega) #[.int .u64 (S : Int), .slice B1 K.length d1]).apart (show w.heap.size + 1 + 1 + 1 + 1 ≠ w.heap.size + 1 + 1 + 1 by omega) #[.int .u64 (P : Int), .int .i64 (M : Int), .int .u64 (G : Int)]
      refine seq_store_row rfl rfl rfl (k5) (spt_info _) (by simp [sptC_size]) (sptC_one _) (by rfl) (Gap.row _ (by omega) (by omega) _) ?_; intro K hK; simp only [Act.put, List.setIfInBounds_toArray, List.set_cons_zero, List.set_cons_succ]; refine hK _ _ ?_; clear hK K
      (repeat (first | (refine seq_skip (by rfl) ?_; intro K hK; simp only [Act.put, List.setIfInBounds_toArray, List.set_cons_zero, List.set_cons_succ]; refine hK _ ?_; clear hK K) | (refine seq_skipc (by rfl) ?_; intro K hK; simp only [Act.put, List.setIfInBounds_toArray, List.set_cons_zero, List.set_cons_succ]; refine hK _ ?_; clear hK K) | (refine seq_read (by rfl) (by rfl) ?_; intro K hK; go_big_quiet_op; first | go_big_quiet_on | (refine ⟨_, fun _ _ => rfl, ?_⟩; go_big_quiet_on))))
      refine seq_done ?_
      go_wp2
      (try simp only [Exit.inBlock, Exit.then])
      (try rw [Exit.noGoto_ret])
      refine bodyPost_ret (results_ccct rfl _ _ rfl rfl rfl (((k3.row #[.int .u64 (S : Int), .slice B1 K.length d1]).apart (by omega) #[.int .u64 (P : Int), .int .i64 (M : Int), .int .u64 (G : Int)]).apart (by omega) (sptC SP)) ((k4.row #[.int .u64 (P : Int), .int .i64 (M : Int), .int .u64 (G : Int)]).apart (by omega) (sptC SP)) (k5.row (sptC SP)) Tryd.underlying25 rfl (by kernel_rfl) Tryd.underlying27 rfl (by kernel_rfl) Tryd.underlying34 rfl (spt_info _)) rfl ?_
      have hE2 := ((HE.out.row (show w.heap.size ≤ w.heap.size + 1 + 1 by omega) #[.int .u64 (S : Int), .slice B1 K.length d1]).row (show w.heap.size ≤ w.heap.size + 1 + 1 + 1 by omega) #[.int .u64 (P : Int), .int .i64 (M : Int), .int .u64 (G : Int)]).row (show w.heap.size ≤ w.heap.size + 1 + 1 + 1 + 1 by omega) ((sptC SP))
      have rf := ((r0.row' hO1 (show w.heap.size ≤ w.heap.size + 1 + 1 by omega) (by omega) #[.int .u64 (S : Int), .slice B1 K.length d1]).row' hO1 (show w.heap.size ≤ w.heap.size + 1 + 1 + 1 by omega) (by omega) #[.int .u64 (P : Int), .int .i64 (M : Int), .int .u64 (G : Int)]).row' hO1 (show w.heap.size ≤ w.heap.size + 1 + 1 + 1 + 1 by omega) (by omega) (sptC SP)
      exact ⟨B1, d1, hE2, .inl ⟨by rw [hz.out], by rw [hz.out, HSP.out]; rfl, by rw [hz.out]; exact rf⟩⟩
    obtain ⟨g', hg⟩ := hsm c1
    have hnn : ¬ (r2 = k ∨ leafB (tE K r1 (ixN a r2)) = false) := fun c => by
      rcases c with c | c
      · exact c1 c
      · rw [hl] at c; cases c
    rw [hl] at clf
    by_cases h0 : G = 0
    case pos =>
      have hz : Hid (D = (8, K, G)) := Lib.hid (by
        have := hno hnn h0
        rw [show g - 1 + 1 = g by omega] at this
        rw [← hD.out]; exact this)
      have cln2 : ∀ W, Mem W S B1 K d1 → Calls Tryd.prog 18 #[.agg #[.int .u64 (S : Int), .slice B1 K.length d1], (.agg #[.int .u64 (P : Int), .int .i64 (M : Int), .int .u64 (G : Int)]), .agg (sptC ⟨r1, (r2 : Int), tE K r1 (ixN a r2)⟩), .int .u64 (a : Int)] W fun r w' => ∃ B' d', r = .returned (.tuple #[.agg #[.int .u64 (S : Int), .slice B' K.length d'], (.agg #[.int .u64 (P : Int), .int .i64 (M : Int), .int .u64 (G : Int)]), .int .i64 8]) ∧ Ext W w' := fun W m => by rw [h0]; exact cln W m
      obtain ⟨SP, hSP⟩ : ∃ SP : Spt, (⟨r1, (r2 : Int), tE K r1 (ixN a r2)⟩ : Spt) = SP := ⟨_, rfl⟩
      rw [hSP] at cre HSP x1 hpt cln2
      obtain ⟨p, hp⟩ : ∃ p, tE K r1 (ixN a r2) = p := ⟨_, rfl⟩
      rw [hp] at hpt clf
      clear hst hno hsm hnx hmem cln cly hSP hfit hbits hD c1 hl hp hnn h0
      go_wp2_with (refine wpList_load_blk (by rfl) 25 _ rfl rfl h6 Tryd.underlying25 rfl (by kernel_rfl) ?_)
      refine (cre _ r0).mono ?_
      rintro e w5 ⟨rfl, hE⟩
      (try replace hz := hz.ext hE); (try replace h1 := h1.ext hE); (try replace h2 := h2.ext hE); (try replace h6 := h6.ext hE); (try replace h7 := h7.ext hE); (try replace h8 := h8.ext hE); (try replace h9 := h9.ext hE); (try replace k1 := k1.ext hE); (try replace k3 := k3.ext hE); (try replace k4 := k4.ext hE); (try replace k5 := k5.ext hE); (try replace hM := hM.ext hE); (try replace HE := Lib.hid (HE.out.trans hE)); (try replace r0 := r0.ext hE); (try replace r1 := r1.ext hE); (try replace r2 := r2.ext hE); (try replace r3 := r3.ext hE); (try replace r4 := r4.ext hE); (try replace r5 := r5.ext hE); (try replace r6 := r6.ext hE)
      clear hE cre
      have zz1 : Blk (w5.alloc (.cells #[.int .u64 0, .int .i64 0, .bool false, .bool false, .bool false, .bool false, .bool false, .bool false, .bool false, .bool false, .int .u64 0, .int .u64 0, .int .u64 0] 34)) w5.heap.size 34 #[.int .u64 0, .int .i64 0, .bool false, .bool false, .bool false, .bool false, .bool false, .bool false, .bool false, .bool false, .int .u64 0, .int .u64 0, .int .u64 0] := Blk.new _ _ _; have hE := ((Ext.refl w5).alloc (.cells #[.int .u64 0, .int .i64 0, .bool false, .bool false, .bool false, .bool false, .bool false, .bool false, .bool false, .bool false, .int .u64 0, .int .u64 0, .int .u64 0] 34)).row (Nat.le_refl w5.heap.size) (sptC SP); (try replace hz := hz.ext hE); (try replace h1 := h1.ext hE); (try replace h2 := h2.ext hE); (try replace h6 := h6.ext hE); (try replace h7 := h7.ext hE); (try replace h8 := h8.ext hE); (try replace h9 := h9.ext hE); (try replace k1 := k1.ext hE); (try replace k3 := k3.ext hE); (try replace k4 := k4.ext hE); (try replace k5 := k5.ext hE); (try replace hM := hM.ext hE); (try replace HE := Lib.hid (HE.out.trans hE)); (try replace r0 := r0.ext hE); (try replace r1 := r1.ext hE); (try replace r2 := r2.ext hE); (try replace r3 := r3.ext hE); (try replace r4 := r4.ext hE); (try replace r5 := r5.ext hE); (try replace r6 := r6.ext hE); clear hE; have h8 := zz1.row (sptC SP)
      have y1 := (h8.cell 1).trans x1
      go_wp2_with (first | ((refine wpList_store_blk rfl 34 _ _ rfl rfl rfl zz1 (spt_info _) (by simp [sptC_size]) (sptC_one _) ?_); clear zz1; generalize (w5.alloc (.cells #[.int .u64 0, .int .i64 0, .bool false, .bool false, .bool false, .bool false, .bool false, .bool false, .bool false, .bool false, .int .u64 0, .int .u64 0, .int .u64 0] 34)).setRow w5.heap.size (sptC SP) = X at *) | (refine wpList_load_part (by rfl) 32 _ rfl rfl h8 (hpt) Tryd.underlying32 rfl (pt_info _) ?_))
      clear y1
      refine (clf _).mono ?_
      rintro e w6 ⟨rfl, hE⟩
      (try replace hz := hz.ext hE); (try replace h1 := h1.ext hE); (try replace h2 := h2.ext hE); (try replace h6 := h6.ext hE); (try replace h7 := h7.ext hE); (try replace h8 := h8.ext hE); (try replace h9 := h9.ext hE); (try replace k1 := k1.ext hE); (try replace k3 := k3.ext hE); (try replace k4 := k4.ext hE); (try replace k5 := k5.ext hE); (try replace hM := hM.ext hE); (try replace HE := Lib.hid (HE.out.trans hE)); (try replace r0 := r0.ext hE); (try replace r1 := r1.ext hE); (try replace r2 := r2.ext hE); (try replace r3 := r3.ext hE); (try replace r4 := r4.ext hE); (try replace r5 := r5.ext hE); (try replace r6 := r6.ext hE)
      clear hE clf
      go_wp2_with (first | (refine wpList_load_blk (by rfl) 25 _ rfl rfl h6 Tryd.underlying25 rfl (by kernel_rfl) ?_) | (refine wpList_load_blk (by rfl) 27 _ rfl rfl h7 Tryd.underlying27 rfl (by kernel_rfl) ?_) | (refine wpList_load_blk (by rfl) 34 _ rfl rfl h8 Tryd.underlying34 rfl (by kernel_rfl) ?_))
      refine (cln2 _ r0).mono ?_
      rintro e w7 ⟨B2, d2, rfl, hE⟩
      (try replace hz := hz.ext hE); (try replace h1 := h1.ext hE); (try replace h2 := h2.ext hE); (try replace h6 := h6.ext hE); (try replace h7 := h7.ext hE); (try replace h8 := h8.ext hE); (try replace h9 := h9.ext hE); (try replace k1 := k1.ext hE); (try replace k3 := k3.ext hE); (try replace k4 := k4.ext hE); (try replace k5 := k5.ext hE); (try replace hM := hM.ext hE); (try replace HE := Lib.hid (HE.out.trans hE)); (try replace r0 := r0.ext hE); (try replace r1 := r1.ext hE); (try replace r2 := r2.ext hE); (try replace r3 := r3.ext hE); (try replace r4 := r4.ext hE); (try replace r5 := r5.ext hE); (try replace r6 := r6.ext hE)
      clear hE cln2 r0 h6 h7 h8
      go_wp2_with fail
      have hE := (((Ext.refl w7).alloc (.cells #[.int .u64 (S : Int), .slice B2 K.length d2] 25)).alloc (.cells #[.int .u64 (P : Int), .int .i64 (M : Int), .int .u64 (G : Int)] 27)).drew
      (try replace hz := hz.ext hE); (try replace h1 := h1.ext hE); (try replace h2 := h2.ext hE); (try replace h6 := h6.ext hE); (try replace h7 := h7.ext hE); (try replace h8 := h8.ext hE); (try replace h9 := h9.ext hE); (try replace k1 := k1.ext hE); (try replace k3 := k3.ext hE); (try replace k4 := k4.ext hE); (try replace k5 := k5.ext hE); (try replace hM := hM.ext hE); (try replace HE := Lib.hid (HE.out.trans hE)); (try replace r0 := r0.ext hE); (try replace r1 := r1.ext hE); (try replace r2 := r2.ext hE); (try replace r3 := r3.ext hE); (try replace r4 := r4.ext hE); (try replace r5 := r5.ext hE); (try replace r6 := r6.ext hE)
      clear hE
      refine wp_region_seq [(0, false), (1, false), (2, false), (3, false), (4, true), (5, true), (6, true), (7, false)] (Gap (w.heap.size + 1 + 1) (w.heap.size + 1 + 1 + 1 + 1 + 1)) (by kernel_rfl) (by kernel_rfl) (Gap.refl _ _) (fun _ _ _ => Gap.trans) ?_; simp only [List.map, nth_z, nth_s]
      generalize ((w7.alloc (.cells #[.int .u64 (S : Int), .slice B2 K.length d2] 25)).alloc (.cells #[.int .u64 (P : Int), .int .i64 (M : Int), .int .u64 (G : Int)] 27)).drew = wz at *
      refine seq_load rfl rfl (fun x hx => Gap.blk hx (h1) (by omega)) rfl Tryd.underlying25 (by kernel_rfl) (by rfl) ?_; intro K hK; simp only [Act.put, List.setIfInBounds_toArray, List.set_cons_zero, List.set_cons_succ]; refine hK _ ?_; clear hK K
      refine seq_load rfl rfl (fun x hx => Gap.blk hx (h2) (by omega)) rfl Tryd.underlying27 (by kernel_rfl) (by rfl) ?_; intro K hK; simp only [Act.put, List.setIfInBounds_toArray, List.set_cons_zero, List.set_cons_succ]; refine hK _ ?_; clear hK K
      (repeat (first | (refine seq_skip (by rfl) ?_; intro K hK; simp only [Act.put, List.setIfInBounds_toArray, List.set_cons_zero, List.set_cons_succ]; refine hK _ ?_; clear hK K) | (refine seq_skipc (by rfl) ?_; intro K hK; simp only [Act.put, List.setIfInBounds_toArray, List.set_cons_zero, List.set_cons_succ]; refine hK _ ?_; clear hK K) | (refine seq_read (by rfl) (by rfl) ?_; intro K hK; go_big_quiet_op; first | go_big_quiet_on | (refine ⟨_, fun _ _ => rfl, ?_⟩; go_big_quiet_on))))
      refine seq_build_as rfl (zs_built) (by rfl) ?_; intro K hK; simp only [Act.put, List.setIfInBounds_toArray, List.set_cons_zero, List.set_cons_succ]; refine hK _ ?_; clear hK K
      (repeat (first | (refine seq_skip (by rfl) ?_; intro K hK; simp only [Act.put, List.setIfInBounds_toArray, List.set_cons_zero, List.set_cons_succ]; refine hK _ ?_; clear hK K) | (refine seq_skipc (by rfl) ?_; intro K hK; simp only [Act.put, List.setIfInBounds_toArray, List.set_cons_zero, List.set_cons_succ]; refine hK _ ?_; clear hK K) | (refine seq_read (by rfl) (by rfl) ?_; intro K hK; go_big_quiet_op; first | go_big_quiet_on | (refine ⟨_, fun _ _ => rfl, ?_⟩; go_big_quiet_on))))
      refine seq_store_row rfl rfl rfl (k3) (by kernel_rfl) (by rfl) (by simp [Value.oneCell']) (by rfl) (Gap.row _ (by omega) (by omega) _) ?_; intro K hK; simp only [Act.put, List.setIfInBounds_toArray, List.set_cons_zero, List.set_cons_succ]; refine hK _ _ ?_; clear hK K
      replace k4 := k4.apart (show w.heap.size + 1 + 1 + 1 ≠ w.heap.size + 1 + 1 by omega) #[.int .u64 (S : Int), .slice B L.length d]
      refine seq_store_row rfl rfl rfl (k4) (by kernel_rfl) (by rfl) (by simp [Value.oneCell']) (by rfl) (Gap.row _ (by omega) (by omega) _) ?_; intro K hK; simp only [Act.put, List.setIfInBounds_toArray, List.set_cons_zero, List.set_cons_succ]; refine hK _ _ ?_; clear hK K
      replace k5 := (k5.apart (show w.heap.size + 1 + 1 + 1 + 1 ≠ w.heap.size + 1 + 1 by omega) #[.int .u64 (S : Int), .slice B L.length d]).apart (show w.heap.size + 1 + 1 + 1 + 1 ≠ w.heap.size + 1 + 1 + 1 by omega) #[.int .u64 (P : Int), .int .i64 (M : Int), .int .u64 (F : Int)]
      refine seq_store_row rfl rfl rfl (k5) (spt_info _) (by simp [sptC_size]) (sptC_one _) (by rfl) (Gap.row _ (by omega) (by omega) _) ?_; intro K hK; simp only [Act.put, List.setIfInBounds_toArray, List.set_cons_zero, List.set_cons_succ]; refine hK _ _ ?_; clear hK K
      (repeat (first | (refine seq_skip (by rfl) ?_; intro K hK; simp only [Act.put, List.setIfInBounds_toArray, List.set_cons_zero, List.set_cons_succ]; refine hK _ ?_; clear hK K) | (refine seq_skipc (by rfl) ?_; intro K hK; simp only [Act.put, List.setIfInBounds_toArray, List.set_cons_zero, List.set_cons_succ]; refine hK _ ?_; clear hK K) | (refine seq_read (by rfl) (by rfl) ?_; intro K hK; go_big_quiet_op; first | go_big_quiet_on | (refine ⟨_, fun _ _ => rfl, ?_⟩; go_big_quiet_on))))
      refine seq_done ?_
      go_wp2
      (try simp only [Exit.inBlock, Exit.then])
      (try rw [Exit.noGoto_ret])
      refine bodyPost_ret (results_ccct rfl _ _ rfl rfl rfl (((k3.row #[.int .u64 (S : Int), .slice B L.length d]).apart (by omega) #[.int .u64 (P : Int), .int .i64 (M : Int), .int .u64 (F : Int)]).apart (by omega) (sptC ⟨0, 0, getP 0⟩)) ((k4.row #[.int .u64 (P : Int), .int .i64 (M : Int), .int .u64 (F : Int)]).apart (by omega) (sptC ⟨0, 0, getP 0⟩)) (k5.row (sptC ⟨0, 0, getP 0⟩)) Tryd.underlying25 rfl (by kernel_rfl) Tryd.underlying27 rfl (by kernel_rfl) Tryd.underlying34 rfl (spt_info _)) rfl ?_
      have hE2 := ((HE.out.row (show w.heap.size ≤ w.heap.size + 1 + 1 by omega) #[.int .u64 (S : Int), .slice B L.length d]).row (show w.heap.size ≤ w.heap.size + 1 + 1 + 1 by omega) #[.int .u64 (P : Int), .int .i64 (M : Int), .int .u64 (F : Int)]).row (show w.heap.size ≤ w.heap.size + 1 + 1 + 1 + 1 by omega) ((sptC ⟨0, 0, getP 0⟩))
      exact ⟨B, d, hE2, .inr ⟨by rw [hz.out]; simp, by rw [hz.out]; rfl, hMo _ hE2⟩⟩
    obtain ⟨l, hl2⟩ : ∃ l, r2 = l + 1 := ⟨r2 - 1, by omega⟩
    subst hl2
    subst hg
    have d2' : ((l : Int) + 1 == (k : Int)) = false := by
      rw [beq_eq_false_iff_ne]
      exact fun e => c1 (by omega)
    obtain ⟨q1, q2, q3⟩ := hnx g' rfl c1 hl h0
    have Hq1 := Lib.hid q1
    have Hq2 := Lib.hid q2
    have Hq3 := Lib.hid q3
    have cyy := fun W m => cly l rfl h0 hl W m
    obtain ⟨SP, hSP⟩ : ∃ SP : Spt, (⟨r1, ((l + 1 : Nat) : Int), tE K r1 (ixN a (l + 1))⟩ : Spt) = SP := ⟨_, rfl⟩
    rw [hSP] at cre x1 hpt cyy
    obtain ⟨p, hp⟩ : ∃ p, tE K r1 (ixN a (l + 1)) = p := ⟨_, rfl⟩
    rw [hp] at hpt clf
    clear hst hno hsm hnx hmem cln cly hSP hfit hbits c1 hl hp hnn h0 q1 q2 q3 HSP
    generalize splS K (P + lowN' G) r1 (ixN a (l + 1)) (l + 1) = K2 at *
    generalize takeF G = G2 at *
    go_wp2_with (refine wpList_load_blk (by rfl) 25 _ rfl rfl h6 Tryd.underlying25 rfl (by kernel_rfl) ?_)
    refine (cre _ r0).mono ?_
    rintro e w5 ⟨rfl, hE⟩
    (try replace hz := hz.ext hE); (try replace h1 := h1.ext hE); (try replace h2 := h2.ext hE); (try replace h6 := h6.ext hE); (try replace h7 := h7.ext hE); (try replace h8 := h8.ext hE); (try replace h9 := h9.ext hE); (try replace k1 := k1.ext hE); (try replace k3 := k3.ext hE); (try replace k4 := k4.ext hE); (try replace k5 := k5.ext hE); (try replace hM := hM.ext hE); (try replace HE := Lib.hid (HE.out.trans hE)); (try replace r0 := r0.ext hE); (try replace r1 := r1.ext hE); (try replace r2 := r2.ext hE); (try replace r3 := r3.ext hE); (try replace r4 := r4.ext hE); (try replace r5 := r5.ext hE); (try replace r6 := r6.ext hE)
    clear hE cre
    have zz1 : Blk (w5.alloc (.cells #[.int .u64 0, .int .i64 0, .bool false, .bool false, .bool false, .bool false, .bool false, .bool false, .bool false, .bool false, .int .u64 0, .int .u64 0, .int .u64 0] 34)) w5.heap.size 34 #[.int .u64 0, .int .i64 0, .bool false, .bool false, .bool false, .bool false, .bool false, .bool false, .bool false, .bool false, .int .u64 0, .int .u64 0, .int .u64 0] := Blk.new _ _ _; have hE := ((Ext.refl w5).alloc (.cells #[.int .u64 0, .int .i64 0, .bool false, .bool false, .bool false, .bool false, .bool false, .bool false, .bool false, .bool false, .int .u64 0, .int .u64 0, .int .u64 0] 34)).row (Nat.le_refl w5.heap.size) (sptC SP); (try replace hz := hz.ext hE); (try replace h1 := h1.ext hE); (try replace h2 := h2.ext hE); (try replace h6 := h6.ext hE); (try replace h7 := h7.ext hE); (try replace h8 := h8.ext hE); (try replace h9 := h9.ext hE); (try replace k1 := k1.ext hE); (try replace k3 := k3.ext hE); (try replace k4 := k4.ext hE); (try replace k5 := k5.ext hE); (try replace hM := hM.ext hE); (try replace HE := Lib.hid (HE.out.trans hE)); (try replace r0 := r0.ext hE); (try replace r1 := r1.ext hE); (try replace r2 := r2.ext hE); (try replace r3 := r3.ext hE); (try replace r4 := r4.ext hE); (try replace r5 := r5.ext hE); (try replace r6 := r6.ext hE); clear hE; have h8 := zz1.row (sptC SP)
    have y1 := (h8.cell 1).trans x1
    go_wp2_with (first | ((refine wpList_store_blk rfl 34 _ _ rfl rfl rfl zz1 (spt_info _) (by simp [sptC_size]) (sptC_one _) ?_); clear zz1; generalize (w5.alloc (.cells #[.int .u64 0, .int .i64 0, .bool false, .bool false, .bool false, .bool false, .bool false, .bool false, .bool false, .bool false, .int .u64 0, .int .u64 0, .int .u64 0] 34)).setRow w5.heap.size (sptC SP) = X at *) | (refine wpList_load_part (by rfl) 32 _ rfl rfl h8 (hpt) Tryd.underlying32 rfl (pt_info _) ?_))
    clear y1
    refine (clf _).mono ?_
    rintro e w6 ⟨rfl, hE⟩
    (try replace hz := hz.ext hE); (try replace h1 := h1.ext hE); (try replace h2 := h2.ext hE); (try replace h6 := h6.ext hE); (try replace h7 := h7.ext hE); (try replace h8 := h8.ext hE); (try replace h9 := h9.ext hE); (try replace k1 := k1.ext hE); (try replace k3 := k3.ext hE); (try replace k4 := k4.ext hE); (try replace k5 := k5.ext hE); (try replace hM := hM.ext hE); (try replace HE := Lib.hid (HE.out.trans hE)); (try replace r0 := r0.ext hE); (try replace r1 := r1.ext hE); (try replace r2 := r2.ext hE); (try replace r3 := r3.ext hE); (try replace r4 := r4.ext hE); (try replace r5 := r5.ext hE); (try replace r6 := r6.ext hE)
    clear hE clf
    go_wp2_with (first | (refine wpList_load_blk (by rfl) 25 _ rfl rfl h6 Tryd.underlying25 rfl (by kernel_rfl) ?_) | (refine wpList_load_blk (by rfl) 27 _ rfl rfl h7 Tryd.underlying27 rfl (by kernel_rfl) ?_) | (refine wpList_load_blk (by rfl) 34 _ rfl rfl h8 Tryd.underlying34 rfl (by kernel_rfl) ?_))
    have l6 := h7.lt
    refine (cyy _ r0).mono ?_
    rintro e w7 ⟨B3, d3, rfl, r2', hO3, hE⟩
    (try replace hz := hz.ext hE); (try replace h1 := h1.ext hE); (try replace h2 := h2.ext hE); (try replace h6 := h6.ext hE); (try replace h7 := h7.ext hE); (try replace h8 := h8.ext hE); (try replace h9 := h9.ext hE); (try replace k1 := k1.ext hE); (try replace k3 := k3.ext hE); (try replace k4 := k4.ext hE); (try replace k5 := k5.ext hE); (try replace hM := hM.ext hE); (try replace HE := Lib.hid (HE.out.trans hE)); (try replace r0 := r0.ext hE); (try replace r1 := r1.ext hE); (try replace r2 := r2.ext hE); (try replace r3 := r3.ext hE); (try replace r4 := r4.ext hE); (try replace r5 := r5.ext hE); (try replace r6 := r6.ext hE)
    clear hE cyy r0 h8
    have l8 := h7.lt
    have hO4 : Out w.heap.size (w.heap.size + 1 + 1 + 1 + 1 + 1 + 1 + 1) B3 K2.length := (hO3 w.heap.size).mono (by omega)
    have h9 : Blk ((w7.alloc (.cells #[.int .u64 (S : Int), .slice B3 K2.length d3] 25)).alloc (.cells #[.int .u64 (P : Int), .int .i64 (M : Int), .int .u64 (G2 : Int)] 27)) w7.heap.size 25 #[.int .u64 (S : Int), .slice B3 K2.length d3] := (Blk.new w7 _ _).alloc _
    have k1 : Blk ((w7.alloc (.cells #[.int .u64 (S : Int), .slice B3 K2.length d3] 25)).alloc (.cells #[.int .u64 (P : Int), .int .i64 (M : Int), .int .u64 (G2 : Int)] 27)) (w7.heap.size + 1) 27 #[.int .u64 (P : Int), .int .i64 (M : Int), .int .u64 (G2 : Int)] := blk_at (by simp)
    have h9b := h9
    have k1b := k1
    clear h9 k1
    have hE := ((Ext.refl w7).alloc (.cells #[.int .u64 (S : Int), .slice B3 K2.length d3] 25)).alloc (.cells #[.int .u64 (P : Int), .int .i64 (M : Int), .int .u64 (G2 : Int)] 27)
    replace r2' := r2'.ext hE
    (try replace hz := hz.ext hE); (try replace h1 := h1.ext hE); (try replace h2 := h2.ext hE); (try replace h6 := h6.ext hE); (try replace h7 := h7.ext hE); (try replace h8 := h8.ext hE); (try replace h9 := h9.ext hE); (try replace k1 := k1.ext hE); (try replace k3 := k3.ext hE); (try replace k4 := k4.ext hE); (try replace k5 := k5.ext hE); (try replace hM := hM.ext hE); (try replace HE := Lib.hid (HE.out.trans hE)); (try replace r0 := r0.ext hE); (try replace r1 := r1.ext hE); (try replace r2 := r2.ext hE); (try replace r3 := r3.ext hE); (try replace r4 := r4.ext hE); (try replace r5 := r5.ext hE); (try replace r6 := r6.ext hE)
    clear hE
    have k1s := k1b.apart (show w7.heap.size + 1 ≠ w.heap.size + 1 + 1 + 1 + 1 + 1 by omega) #[.int .u64 (S : Int), .slice B3 K2.length d3]
    have h7s := h7.apart (show w.heap.size + 1 + 1 + 1 + 1 + 1 + 1 ≠ w.heap.size + 1 + 1 + 1 + 1 + 1 by omega) #[.int .u64 (S : Int), .slice B3 K2.length d3]
    have h6f := (h6.row #[.int .u64 (S : Int), .slice B3 K2.length d3]).apart (show w.heap.size + 1 + 1 + 1 + 1 + 1 ≠ w.heap.size + 1 + 1 + 1 + 1 + 1 + 1 by omega) #[.int .u64 (P : Int), .int .i64 (M : Int), .int .u64 (G2 : Int)]
    have h7f := h7s.row #[.int .u64 (P : Int), .int .i64 (M : Int), .int .u64 (G2 : Int)]
    have h1f := (h1.apart (show w.heap.size ≠ w.heap.size + 1 + 1 + 1 + 1 + 1 by omega) #[.int .u64 (S : Int), .slice B3 K2.length d3]).apart (show w.heap.size ≠ w.heap.size + 1 + 1 + 1 + 1 + 1 + 1 by omega) #[.int .u64 (P : Int), .int .i64 (M : Int), .int .u64 (G2 : Int)]
    have h2f := (h2.apart (show w.heap.size + 1 ≠ w.heap.size + 1 + 1 + 1 + 1 + 1 by omega) #[.int .u64 (S : Int), .slice B3 K2.length d3]).apart (show w.heap.size + 1 ≠ w.heap.size + 1 + 1 + 1 + 1 + 1 + 1 by omega) #[.int .u64 (P : Int), .int .i64 (M : Int), .int .u64 (G2 : Int)]
    have k3f := (k3.apart (show w.heap.size + 1 + 1 ≠ w.heap.size + 1 + 1 + 1 + 1 + 1 by omega) #[.int .u64 (S : Int), .slice B3 K2.length d3]).apart (show w.heap.size + 1 + 1 ≠ w.heap.size + 1 + 1 + 1 + 1 + 1 + 1 by omega) #[.int .u64 (P : Int), .int .i64 (M : Int), .int .u64 (G2 : Int)]
    have k4f := (k4.apart (show w.heap.size + 1 + 1 + 1 ≠ w.heap.size + 1 + 1 + 1 + 1 + 1 by omega) #[.int .u64 (S : Int), .slice B3 K2.length d3]).apart (show w.heap.size + 1 + 1 + 1 ≠ w.heap.size + 1 + 1 + 1 + 1 + 1 + 1 by omega) #[.int .u64 (P : Int), .int .i64 (M : Int), .int .u64 (G2 : Int)]
    have k5f := (k5.apart (show w.heap.size + 1 + 1 + 1 + 1 ≠ w.heap.size + 1 + 1 + 1 + 1 + 1 by omega) #[.int .u64 (S : Int), .slice B3 K2.length d3]).apart (show w.heap.size + 1 + 1 + 1 + 1 ≠ w.heap.size + 1 + 1 + 1 + 1 + 1 + 1 by omega) #[.int .u64 (P : Int), .int .i64 (M : Int), .int .u64 (G2 : Int)]
    have rf := (r2'.row' hO4 (show w.heap.size ≤ w.heap.size + 1 + 1 + 1 + 1 + 1 by omega) (by omega) #[.int .u64 (S : Int), .slice B3 K2.length d3]).row' hO4 (show w.heap.size ≤ w.heap.size + 1 + 1 + 1 + 1 + 1 + 1 by omega) (by omega) #[.int .u64 (P : Int), .int .i64 (M : Int), .int .u64 (G2 : Int)]
    have HEf := Lib.hid ((HE.out.row (show w.heap.size ≤ w.heap.size + 1 + 1 + 1 + 1 + 1 by omega) #[.int .u64 (S : Int), .slice B3 K2.length d3]).row (show w.heap.size ≤ w.heap.size + 1 + 1 + 1 + 1 + 1 + 1 by omega) #[.int .u64 (P : Int), .int .i64 (M : Int), .int .u64 (G2 : Int)])
    have hff := Lib.hid (freeAt_of h7f)
    clear HE k3 k4 k5 h1 h2 h7 r2' hO3 l6 l8 l7
    go_wp2_with (first | (refine wpList_load_blk (by rfl) 25 _ rfl rfl h9b Tryd.underlying25 rfl (by kernel_rfl) ?_) | (refine wpList_store_blk rfl 25 _ _ rfl rfl rfl h6 (by kernel_rfl) (by rfl) (by simp [Value.oneCell']) ?_) | (refine wpList_load_blk (by rfl) 27 _ rfl rfl k1s Tryd.underlying27 rfl (by kernel_rfl) ?_) | (refine wpList_store_blk rfl 27 _ _ rfl rfl rfl h7s (by kernel_rfl) (by rfl) (by simp [Value.oneCell']) ?_))
    go_roundw
    case rel => exact ⟨_, _, _, _, _, _, _, _, _, _, _, _, _, _, _, _, _, _, _, _, _, _, _, _, _, _, _, _, _, _, _, _, _, _, _, _, _, _, _, _, _, ⟨g', G2, K2, B3, d3, Lib.hid (by rw [← Hq1.out]; exact hD.out), Hq2, h1f, h2f, k3f, k4f, k5f, h6f, h7f, rf, hO4, HEf.out⟩, rfl⟩
    case measure => rw [hff.out, hfr.out]; exact Hq3.out
end Go.Proofs.YticbjiddbjgikaaDoor
/- atlasref20: Leaf, where no frame is free. -/
namespace Go.Proofs.YticbjiddbjgikaaDoor
open Go.ChangeShapes Go.WideShapes Go.ChangeAt Go.RowKit
set_option linter.unusedVariables false
set_option linter.unusedSimpArgs false
set_option maxRecDepth 10000
attribute [local irreducible] World.setRow World.alloc Blk
theorem results_cct {fn : Func} {p q u : Tmp} {tp tq : TypeId} {P : Program} (h : fn.results = #[.cell p tp, .cell q tq, .tmp u]) (tmps : Array Value) (w : World) {g k : Nat} {t v : TypeId} {cs ds : Array Value} {d e : TypeDesc}
    (hp : tmps.getD p undef = .pointer (some ⟨g, 0, none⟩)) (hq : tmps.getD q undef = .pointer (some ⟨k, 0, none⟩)) (hg : Blk w g t cs) (hk : Blk w k v ds)
    (hu : P.underlying tp = some d) (hd : d.isRow = true) (hi : (P.info? tp).map (·.size) = some cs.size) (hu2 : P.underlying tq = some e) (hd2 : e.isRow = true) (hi2 : (P.info? tq).map (·.size) = some ds.size) :
    (results fn tmps).run P w = .ok (.tuple #[.agg cs, .agg ds, tmps.getD u undef]) w := by
  have hp' : tmps[p]?.getD undef = .pointer (some ⟨g, 0, none⟩) := by simpa using hp
  have hq' : tmps[q]?.getD undef = .pointer (some ⟨k, 0, none⟩) := by simpa using hq
  simp only [results, h]
  simp [Sem.run_bind, Result.andThen, hp', hq', asAddr, run_result hg hu hd hi, run_result hk hu2 hd2 hi2]
set_option maxHeartbeats 8000000 in
theorem rleaf20_no {S P M : Nat} {L : List (Nat × Nat)} {B : Option Addr} {d a : Nat} {SP : Spt} (hM64 : M ≤ 64) (w : World) (hM : Mem w S B L d) :
    Calls Tryd.prog 18 #[.agg #[.int .u64 (S : Int), .slice B L.length d], .agg #[.int .u64 (P : Int), .int .i64 (M : Int), .int .u64 0], .agg (sptC SP), .int .u64 (a : Int)] w fun r w' => r = .returned (.tuple #[.agg #[.int .u64 (S : Int), .slice B L.length d], .agg #[.int .u64 (P : Int), .int .i64 (M : Int), .int .u64 0], .int .i64 8]) ∧ Ext w w' := by
  have cfr := fun W (m : Mem W S B L d) => rfresh19_no (P := P) hM64 W m
  have hMo := fun W (e : Ext w W) => hM.ext e
  have h1 : Blk (((((w.alloc (.cells #[.int .u64 (S : Int), .slice B L.length d] 25)).alloc (.cells #[.int .u64 (P : Int), .int .i64 (M : Int), .int .u64 0] 27)).alloc (.cells (sptC SP) 34)).alloc (.cells #[.int .u64 0, .slice none 0 0] 25)).alloc (.cells #[.int .u64 0, .int .i64 0, .int .u64 0] 27)) (w.heap.size) 25 #[.int .u64 (S : Int), .slice B L.length d] := ((((Blk.new w _ _).alloc _).alloc _).alloc _).alloc _
  have h2 : Blk (((((w.alloc (.cells #[.int .u64 (S : Int), .slice B L.length d] 25)).alloc (.cells #[.int .u64 (P : Int), .int .i64 (M : Int), .int .u64 0] 27)).alloc (.cells (sptC SP) 34)).alloc (.cells #[.int .u64 0, .slice none 0 0] 25)).alloc (.cells #[.int .u64 0, .int .i64 0, .int .u64 0] 27)) (w.heap.size + 1) 27 #[.int .u64 (P : Int), .int .i64 (M : Int), .int .u64 0] := (((blk_at (by simp)).alloc _).alloc _).alloc _
  have h3 : Blk (((((w.alloc (.cells #[.int .u64 (S : Int), .slice B L.length d] 25)).alloc (.cells #[.int .u64 (P : Int), .int .i64 (M : Int), .int .u64 0] 27)).alloc (.cells (sptC SP) 34)).alloc (.cells #[.int .u64 0, .slice none 0 0] 25)).alloc (.cells #[.int .u64 0, .int .i64 0, .int .u64 0] 27)) (w.heap.size + 1 + 1) 34 (sptC SP) := ((blk_at (by simp)).alloc _).alloc _
  have k3 : Blk (((((w.alloc (.cells #[.int .u64 (S : Int), .slice B L.length d] 25)).alloc (.cells #[.int .u64 (P : Int), .int .i64 (M : Int), .int .u64 0] 27)).alloc (.cells (sptC SP) 34)).alloc (.cells #[.int .u64 0, .slice none 0 0] 25)).alloc (.cells #[.int .u64 0, .int .i64 0, .int .u64 0] 27)) (w.heap.size + 1 + 1 + 1) 25 #[.int .u64 0, .slice none 0 0] := (blk_at (by simp)).alloc _
  have k4 : Blk (((((w.alloc (.cells #[.int .u64 (S : Int), .slice B L.length d] 25)).alloc (.cells #[.int .u64 (P : Int), .int .i64 (M : Int), .int .u64 0] 27)).alloc (.cells (sptC SP) 34)).alloc (.cells #[.int .u64 0, .slice none 0 0] 25)).alloc (.cells #[.int .u64 0, .int .i64 0, .int .u64 0] 27)) (w.heap.size + 1 + 1 + 1 + 1) 27 #[.int .u64 0, .int .i64 0, .int .u64 0] := blk_at (by simp)
  have HE := Lib.hid (show Ext w (((((w.alloc (.cells #[.int .u64 (S : Int), .slice B L.length d] 25)).alloc (.cells #[.int .u64 (P : Int), .int .i64 (M : Int), .int .u64 0] 27)).alloc (.cells (sptC SP) 34)).alloc (.cells #[.int .u64 0, .slice none 0 0] 25)).alloc (.cells #[.int .u64 0, .int .i64 0, .int .u64 0] 27)) from (((((Ext.refl w).alloc _).alloc _).alloc _).alloc _).alloc _)
  go_enter Tryd.func18, Tryd.ntmps18
  go_wp2_with (first | (refine wpList_load_blk (by rfl) 25 _ rfl rfl h1 Tryd.underlying25 rfl (by kernel_rfl) ?_) | (refine wpList_load_blk (by rfl) 27 _ rfl rfl h2 Tryd.underlying27 rfl (by kernel_rfl) ?_))
  generalize ((((w.alloc (.cells #[.int .u64 (S : Int), .slice B L.length d] 25)).alloc (.cells #[.int .u64 (P : Int), .int .i64 (M : Int), .int .u64 0] 27)).alloc (.cells (sptC SP) 34)).alloc (.cells #[.int .u64 0, .slice none 0 0] 25)).alloc (.cells #[.int .u64 0, .int .i64 0, .int .u64 0] 27) = W1 at *
  refine (cfr _ (hMo _ HE.out)).mono ?_
  rintro e w7 ⟨B2, d2, rfl, -, hE⟩
  (try replace h1 := h1.ext hE); (try replace h2 := h2.ext hE); (try replace h3 := h3.ext hE); (try replace k3 := k3.ext hE); (try replace k4 := k4.ext hE); (try replace hM := hM.ext hE); (try replace HE := Lib.hid (HE.out.trans hE)); (try replace r0 := r0.ext hE); (try replace r1 := r1.ext hE); (try replace r2 := r2.ext hE); (try replace r3 := r3.ext hE); (try replace r4 := r4.ext hE); (try replace r5 := r5.ext hE); (try replace r6 := r6.ext hE)
  clear hE cfr h3
  go_wp2_with fail
  have hE := ((((Ext.refl w7).alloc (.cells #[.int .u64 (S : Int), .slice B2 L.length d2] 25)).alloc (.cells #[.int .u64 (P : Int), .int .i64 (M : Int), .int .u64 0] 27)).drew)
  (try replace h1 := h1.ext hE); (try replace h2 := h2.ext hE); (try replace h3 := h3.ext hE); (try replace k3 := k3.ext hE); (try replace k4 := k4.ext hE); (try replace hM := hM.ext hE); (try replace HE := Lib.hid (HE.out.trans hE)); (try replace r0 := r0.ext hE); (try replace r1 := r1.ext hE); (try replace r2 := r2.ext hE); (try replace r3 := r3.ext hE); (try replace r4 := r4.ext hE); (try replace r5 := r5.ext hE); (try replace r6 := r6.ext hE)
  clear hE
  refine wp_region_seq [(0, false), (1, false), (2, false), (3, true), (4, true), (5, false)] (Gap (w.heap.size + 1 + 1 + 1) (w.heap.size + 1 + 1 + 1 + 1 + 1)) (by kernel_rfl) (by kernel_rfl) (Gap.refl _ _) (fun _ _ _ => Gap.trans) ?_; simp only [List.map, nth_z, nth_s]
  generalize ((w7.alloc (.cells #[.int .u64 (S : Int), .slice B2 L.length d2] 25)).alloc (.cells #[.int .u64 (P : Int), .int .i64 (M : Int), .int .u64 0] 27)).drew = wz at *
  refine seq_load rfl rfl (fun x hx => Gap.blk hx (h1) (by omega)) rfl Tryd.underlying25 (by kernel_rfl) (by rfl) ?_; intro K hK; simp only [Act.put, List.setIfInBounds_toArray, List.set_cons_zero, List.set_cons_succ]; refine hK _ ?_; clear hK K
  refine seq_load rfl rfl (fun x hx => Gap.blk hx (h2) (by omega)) rfl Tryd.underlying27 (by kernel_rfl) (by rfl) ?_; intro K hK; simp only [Act.put, List.setIfInBounds_toArray, List.set_cons_zero, List.set_cons_succ]; refine hK _ ?_; clear hK K
  (repeat (first | (refine seq_skip (by rfl) ?_; intro K hK; simp only [Act.put, List.setIfInBounds_toArray, List.set_cons_zero, List.set_cons_succ]; refine hK _ ?_; clear hK K) | (refine seq_skipc (by rfl) ?_; intro K hK; simp only [Act.put, List.setIfInBounds_toArray, List.set_cons_zero, List.set_cons_succ]; refine hK _ ?_; clear hK K) | (refine seq_read (by rfl) (by rfl) ?_; intro K hK; go_big_quiet_op; first | go_big_quiet_on | (refine ⟨_, fun _ _ => rfl, ?_⟩; go_big_quiet_on))))
  refine seq_store_row rfl rfl rfl (k3) (by kernel_rfl) (by rfl) (by simp [Value.oneCell']) (by rfl) (Gap.row _ (by omega) (by omega) _) ?_; intro K hK; simp only [Act.put, List.setIfInBounds_toArray, List.set_cons_zero, List.set_cons_succ]; refine hK _ _ ?_; clear hK K
  replace k4 := k4.apart (show w.heap.size + 1 + 1 + 1 + 1 ≠ w.heap.size + 1 + 1 + 1 by omega) #[.int .u64 (S : Int), .slice B L.length d]
  refine seq_store_row rfl rfl rfl (k4) (by kernel_rfl) (by rfl) (by simp [Value.oneCell']) (by rfl) (Gap.row _ (by omega) (by omega) _) ?_; intro K hK; simp only [Act.put, List.setIfInBounds_toArray, List.set_cons_zero, List.set_cons_succ]; refine hK _ _ ?_; clear hK K
  (repeat (first | (refine seq_skip (by rfl) ?_; intro K hK; simp only [Act.put, List.setIfInBounds_toArray, List.set_cons_zero, List.set_cons_succ]; refine hK _ ?_; clear hK K) | (refine seq_skipc (by rfl) ?_; intro K hK; simp only [Act.put, List.setIfInBounds_toArray, List.set_cons_zero, List.set_cons_succ]; refine hK _ ?_; clear hK K) | (refine seq_read (by rfl) (by rfl) ?_; intro K hK; go_big_quiet_op; first | go_big_quiet_on | (refine ⟨_, fun _ _ => rfl, ?_⟩; go_big_quiet_on))))
  refine seq_done ?_
  go_wp2
  (try simp only [Exit.inBlock, Exit.then])
  (try rw [Exit.noGoto_ret])
  refine bodyPost_ret (results_cct rfl _ _ rfl rfl ((k3.row #[.int .u64 (S : Int), .slice B L.length d]).apart (by omega) #[.int .u64 (P : Int), .int .i64 (M : Int), .int .u64 0]) (k4.row #[.int .u64 (P : Int), .int .i64 (M : Int), .int .u64 0]) Tryd.underlying25 rfl (by kernel_rfl) Tryd.underlying27 rfl (by kernel_rfl)) rfl ?_
  exact ⟨rfl, (HE.out.row (show w.heap.size ≤ w.heap.size + 1 + 1 + 1 by omega) #[.int .u64 (S : Int), .slice B L.length d]).row (show w.heap.size ≤ w.heap.size + 1 + 1 + 1 + 1 by omega) #[.int .u64 (P : Int), .int .i64 (M : Int), .int .u64 0]⟩
end Go.Proofs.YticbjiddbjgikaaDoor
