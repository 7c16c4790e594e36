/- Package table: Empty: a loop over the iterator of a table's entries that ends at the first. -/
import Derived.Test.YticbjiddbjgikaaDoorGctab
namespace Go.Proofs.YticbjiddbjgikaaDoor
open Go.ChangeShapes Go.WideShapes Go.ChangeAt Go.RowKit
set_option linter.unusedVariables false
set_option linter.unusedSimpArgs false
set_option maxRecDepth 10000
attribute [local go_sem] Oper.semAt_some
theorem em_none {S : Nat} {L : List (Nat × Nat)} (h : RL (S / 8) L) (f : Nat) (he : entP L f 512 = []) : empB L f = true := by
  unfold empB
  rw [List.all_eq_true]
  intro x hx
  have h1 := wordL_mem h x hx
  have h2 := (h.2 x hx).1
  by_cases hq : x.1 / 512 = f
  · exfalso
    have hi : x.1 % 512 < 512 := Nat.mod_lt _ (by decide)
    have he2 : 512 * f + x.1 % 512 = x.1 := by omega
    have hm : (x.1 % 512, tE L f (x.1 % 512)) ∈ entP L f 512 := by
      unfold entP
      refine List.mem_map.2 ⟨x.1 % 512, List.mem_filter.2 ⟨List.mem_range.2 hi, ?_⟩, rfl⟩
      rw [he2, h1]; simpa using h2
    rw [he] at hm
    cases hm
  · simpa using hq
theorem em_some {L : List (Nat × Nat)} {f : Nat} (he : entP L f 512 ≠ []) : empB L f = false := by
  obtain ⟨x, hx⟩ := List.exists_mem_of_ne_nil _ he
  obtain ⟨h1, -, h3⟩ := entP_mem hx
  unfold empB
  rw [List.all_eq_false]
  by_cases hq : ∃ c ∈ L, c.1 = 512 * f + x.1
  · obtain ⟨c, hc, e⟩ := hq
    exact ⟨c, hc, by simp; omega⟩
  · exact absurd (wordL_none fun c hc e => hq ⟨c, hc, e⟩) h3
theorem results_bool {fn : Func} {p : Tmp} {ty : TypeId} {P : Program} (h : fn.results = #[.cell p ty]) (tmps : Array Value) (w : World) (g : Nat) (b : Bool) (hp : tmps.getD p undef = .pointer (some ⟨g, 0, none⟩)) (hb : w.cell? ⟨g, 0, none⟩ = some (.bool b)) (hu : P.underlying ty = some .bool) :
    (results fn tmps).run P w = .ok (.bool b) w := by
  have hp' : tmps[p]?.getD undef = .pointer (some ⟨g, 0, none⟩) := by simpa using hp
  have hagg : (isAgg ty).run P w = .ok false w := by
    unfold isAgg
    rw [Sem.run_bind, run_underlying hu w]
    rfl
  simp [results, h, hp', asAddr, loadVar, hagg, hb]
attribute [local irreducible] World.setRow World.alloc Blk
set_option maxHeartbeats 2000000 in
theorem tempty_c {S : Nat} {B : Option Addr} {L : List (Nat × Nat)} {d f : Nat} (w : World) (hM : Mem w S B L d) (hf : f < S / 4096) :
    Calls Tryd.prog 69 #[.agg #[.int .u64 (S : Int), .slice B L.length d], .int .u64 (f : Int)] w fun e w' => e = .returned (.bool (empB L f)) ∧ Ext w w' := by
  have hrl := hM.rl
  refine (callsIn_wide (n := 12)).1 ?_
  refine callsIn_of_wp_marks Tryd.func69 rfl trivial ?_ rfl
  simp only [Tryd.ntmps69, List.size_toArray, List.length_cons, List.length_nil, Nat.reduceAdd, Nat.reduceSub, Array.replicate_succ, Array.replicate_zero, List.push_toArray, List.append_toArray, List.nil_append, List.cons_append]
  gi_wp2_with fail
  refine ⟨trivial, ?_⟩
  obtain ⟨W4, hW4⟩ : ∃ W4, W4 = (w.alloc (.cells #[.int .u64 (S : Int), .slice B L.length d] 25)).alloc (.cells #[.bool false] 4) := ⟨_, rfl⟩
  have hs4 : W4.heap.size = w.heap.size + 1 + 1 := by rw [hW4]; simp
  have hE4 : Ext w W4 := by rw [hW4]; exact ((Ext.refl w).alloc _).alloc _
  have ho4 : Blk W4 (w.heap.size + 1) 4 #[.bool false] := by rw [hW4]; exact blk_at (by simp)
  rw [← hW4]
  clear hW4
  refine (callsIn_wide.2 (tent_c S B L.length d f W4)).mono ?_
  rintro e w1 ⟨rfl, hw1⟩
  have hE5 : Ext W4 w1 := by rw [hw1]; exact ((Ext.refl W4).alloc _).alloc _
  have q1 : Blk w1 W4.heap.size 25 #[.int .u64 (S : Int), .slice B L.length d] := by rw [hw1]; exact (Blk.new W4 _ _).alloc _
  have q2 : Blk w1 (W4.heap.size + 1) 22 #[.int .u64 (f : Int)] := by rw [hw1]; exact blk_at (by simp)
  have hs5 : w1.heap.size = W4.heap.size + 1 + 1 := by rw [hw1]; simp
  clear hw1
  rw [hs4] at q1 q2 hs5 ⊢
  have hE9 := hE4.trans hE5
  have ho9 := ho4.ext hE5
  clear hE4 hE5 ho4
  gi_wp2_with fail
  refine range_out (tent_gen (g1 := w.heap.size + 1 + 1) (g2 := w.heap.size + 1 + 1 + 1) hM hf) rfl (enters_of Tryd.func104 (by kernel_rfl) rfl) (fun W' h => EnPre.ext ⟨hE9, q1, q2⟩ h) hE9.size (fun k => k = w.heap.size + 1) none
    (fun k h => by omega) (fun k h => ?bx) (fun k h => by cases h) (fun _ => rfl)
    (fun q O' W' => q = [] ∧ O' = none ∧ Blk W' (w.heap.size + 1) 4 #[.bool false] ∧ Ext w W') (fun c q O' W' => c = .ret ∧ q ≠ [] ∧ O' = none ∧ Blk W' (w.heap.size + 1) 4 #[.bool false] ∧ Ext w W')
    (fun s O' W' h k hk => by rw [h.2.1] at hk; cases hk) (fun s O' W1 W' h st => ⟨h.1, h.2.1, st.blk h.2.2.1 (.inl (by omega)), Below.trans h.2.2.2 (st.below (by omega) h.2.2.2.size)⟩)
    (fun c s O' W1 W' h st => ⟨h.1, h.2.1, h.2.2.1, st.blk h.2.2.2.1 (.inl (by omega)), Below.trans h.2.2.2.2 (st.below (by omega) h.2.2.2.2.size)⟩) ⟨rfl, rfl, ho9, hE9⟩ ?round ?done ?stop
  case bx =>
    have hk : k = w.heap.size + 1 + 1 ∨ k = w.heap.size + 1 + 1 + 1 := by simpa using h
    exact ⟨by omega, by omega, fun q => by cases q⟩
  case done =>
    rintro D O' W hD hDO ⟨he, rfl, hb, hE⟩ hK
    have he2 := Lib.hid (em_none hrl f he)
    clear he
    have c0 := hb.cell 0
    have f0 := hb.frozen 0
    have hES : Ext w (W.setCell ⟨w.heap.size + 1, 0, none⟩ (.bool true)) := hE.set1 (by omega) 0 _
    have hbS := (hb.set_ 0 (.bool true)).cell 0
    have hKS : (W.setCell ⟨w.heap.size + 1, 0, none⟩ (.bool true)).heap[D]? = some (.deferred (some [])) := (Below.heap_setCell _ _ _ _ (by show D ≠ w.heap.size + 1; omega)).trans hK
    clear hb hE hK
    gi_wp2
    generalize W.setCell ⟨w.heap.size + 1, 0, none⟩ (.bool true) = W2 at *
    have hT := turn_put (B := w1.heap.size) (.deferred none) hD hKS rfl
    refine ⟨by simp, .inl ⟨_, _, rfl, run_takeDeferred hKS, ?_⟩⟩
    exact ⟨_, results_bool rfl _ _ (w.heap.size + 1) true rfl (cell_kept hbS (grownBy_putObj' _ D (.deferred none)) (fun r e => by cases e; exact ⟨_, hKS, rfl⟩)) Tryd.underlying4, by rw [he2.out], hT.ext hES (by omega)⟩
  case stop =>
    rintro D c pre O' W hD hDO hp ⟨rfl, hne, rfl, hb, hE⟩ hK
    have he2 := Lib.hid (em_some (L := L) (f := f) fun e => by rw [e] at hp; exact hne (List.prefix_nil.1 hp))
    have hbS := hb.cell 0
    clear hne hp hb
    have hT := turn_put (B := w1.heap.size) (.deferred none) hD hK rfl
    gi_wp2
    refine ⟨by simp, .inl ⟨_, _, rfl, run_takeDeferred hK, ?_⟩⟩
    exact ⟨_, results_bool rfl _ _ (w.heap.size + 1) false rfl (cell_kept hbS (grownBy_putObj' _ D (.deferred none)) (fun r e => by cases e; exact ⟨_, hK, rfl⟩)) Tryd.underlying4, by rw [he2.out], hT.ext hE (by omega)⟩
  case round =>
    rintro l3 q ⟨i, p⟩ post O3 W3 hl3 hx3 ⟨rfl, rfl, hb, hE3⟩ hlt hol hr3
    simp only [encE]
    gi_wp2
    refine ⟨Ext.refl _, ?_⟩
    intro W2 st hrr hk4
    replace hb := blk_keep hk4 hb
    replace hE3 : Ext w W2 := Below.trans hE3 (st.below (show w.heap.size ≤ l3 by omega) hE3.size)
    have c0 := hb.cell 0
    have f0 := hb.frozen 0
    have hES : Ext w (W2.setCell ⟨w.heap.size + 1, 0, none⟩ (.bool false)) := hE3.set1 (by omega) 0 _
    have hbS := hb.set_ 0 (.bool false)
    have hRS : Rnd (fun k => k = w.heap.size + 1) none none W2 (W2.setCell ⟨w.heap.size + 1, 0, none⟩ (.bool false)) := by
      have e : W2.setCell ⟨w.heap.size + 1, 0, none⟩ (.bool false) = W2.setRow (w.heap.size + 1) #[.bool false] := setCell_eq_setRow W2 (w.heap.size + 1) 0 #[.bool false] 4 (0, 0) (.bool false) (by unfold Blk at hb; exact hb)
      rw [e]
      exact Rnd.row (Pv := fun k => k = w.heap.size + 1) W2 rfl _
    clear hb hE3 hk4 st hrr hr3
    gi_wp2
    exact ⟨none, hRS, rfl, by simp, rfl, hbS, hES⟩
end Go.Proofs.YticbjiddbjgikaaDoor
