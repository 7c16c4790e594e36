/- Slices of cells laid one behind the other: slices.Grow, slices.Concat. -/
import Derived.Test.YtcodgmahegofjaaCmem
import Derived.Maps.AppendAt
import Derived.OwnWalk
import Derived.Laws.OwnMore
import Derived.Lib.AppendZerosOnto
namespace Go.Proofs.Ytcodgmahegofjaa
open Go.ChangeShapes Go.WideShapes Go.ChangeAt Go.RowKit
set_option linter.unusedVariables false
set_option linter.unusedSimpArgs false

/-- the cells of a list, as values -/
def cellVs (L : List (Nat × Nat)) : List Value := L.flatMap fun c => [Value.int .u64 (c.1 : Int), Value.int .u64 (c.2 : Int)]
theorem cellVs_len (L : List (Nat × Nat)) : (cellVs L).length = L.length * 2 := by
  induction L with
  | nil => rfl
  | cons c r ih => unfold cellVs at ih ⊢; rw [List.flatMap_cons, List.length_append, ih, List.length_cons]; simp; omega
theorem cellVs_app (K L : List (Nat × Nat)) : cellVs (K ++ L) = cellVs K ++ cellVs L := by simp [cellVs]
theorem cellVs_get : ∀ (L : List (Nat × Nat)) (i : Nat), i < L.length → (cellVs L)[i * 2]? = some (.int .u64 ((atN L i : Nat) : Int)) ∧ (cellVs L)[i * 2 + 1]? = some (.int .u64 ((vlN L i : Nat) : Int))
  | [], i, h => by simp at h
  | c :: r, 0, _ => by simp [cellVs, atN, vlN]
  | c :: r, i + 1, h => by
    have := cellVs_get r i (by simpa using h)
    have e1 : atN (c :: r) (i + 1) = atN r i := by unfold atN; simp
    have e2 : vlN (c :: r) (i + 1) = vlN r i := by unfold vlN; simp
    rw [e1, e2, show (i + 1) * 2 = i * 2 + 2 by omega, show i * 2 + 2 + 1 = i * 2 + 1 + 2 by omega]
    unfold cellVs at this ⊢
    simpa using this
theorem cellVs_one (L : List (Nat × Nat)) : ∀ u ∈ cellVs L, u.oneCell' = true := by
  intro u hu
  simp only [cellVs, List.mem_flatMap] at hu
  obtain ⟨c, _, h⟩ := hu
  simp at h
  rcases h with rfl | rfl <;> rfl

/-- the slice reads as those cells, and may be cut and appended -/
def RowL (w : World) (A : Option Addr) (L : List (Nat × Nat)) (c : Nat) : Prop := ClB w A L ∧ (A = none → L = [] ∧ c = 0) ∧ L.length ≤ c ∧ c ≤ 9223372036854775807
theorem RowL.ext {w w' : World} {A : Option Addr} {L : List (Nat × Nat)} {c : Nat} (h : RowL w A L c) (hb : Ext w w') : RowL w' A L c := ⟨h.1.ext hb, h.2⟩
theorem RowL.nil (w : World) : RowL w none [] 0 := ⟨fun h => absurd h (by simp), fun _ => ⟨rfl, rfl⟩, by simp, by omega⟩

theorem cell_info : (Try.prog.info? 48).map (fun i => (i.zero, i.size, i.bytes)) = some (some (.agg #[.int .u64 0, .int .u64 0]), 2, 16) := by kernel_rfl

theorem own_row {w : World} {base : Nat} {v : Value} {L : List (Nat × Nat)} (h : w.ownsRow base 48 2 v L.length (cellVs L)) : ∃ A c, v = .slice A L.length c ∧ RowL w A L c := by
  rcases h.2 with ⟨rfl, h0⟩ | ⟨g, cap, cur, rfl, hbg, hh, hcl, hcm, _, ht⟩
  · have : L = [] := List.eq_nil_of_length_eq_zero h0
    subst this
    exact ⟨none, 0, rfl, RowL.nil w⟩
  · refine ⟨_, cap, rfl, ⟨fun hl => ⟨g, 0, rfl, (h.lt g rfl).2, fun i hi => ?_⟩, fun e => (by cases e), hcl, by unfold maxLen at hcm; omega⟩⟩
    obtain ⟨h1, h2⟩ := cellVs_get L i hi
    exact ⟨by rw [Nat.zero_add, h.cellAt (i * 2) (by omega), h1], by rw [Nat.zero_add, h.cellAt (i * 2 + 1) (by omega), h2]⟩

theorem run_append_cl (w : World) (base : Nat) (v : Value) (n : Nat) (xs : List Value) (hown : w.ownsRow base 48 2 v n xs) (A : Option Addr) (L : List (Nat × Nat)) (c : Nat) (hr : RowL w A L c)
    (hn : n + L.length ≤ 100000) (hb : base ≤ w.heap.size) (ty : TypeId) :
    ∃ v' w', (Builtin.append_ #[23, 23] ty #[v, .slice A L.length c]).run Try.prog w = .ok v' w' ∧ w'.ownsRow base 48 2 v' (n + L.length) (xs ++ cellVs L) ∧ w.grownBy w' v.ownBlock := by
  obtain ⟨i0, hi, hz0, hz1, hz2⟩ := info_parts cell_info
  rcases A with _ | a
  · obtain ⟨rfl, rfl⟩ := hr.2.1 rfl
    exact ⟨v, w, run_append_owned_none w base 23 ty 48 i0 2 Try.underlying23 hi v n xs hown, by simpa [cellVs] using hown, World.grownBy.refl w _⟩
  · obtain ⟨v', w', h1, h2, h3, _⟩ := run_append_own_at (P := Try.prog) w base 23 ty 48 i0 _ 2 16 Try.underlying23 hi hz0 hz1 hz2 rfl (by decide) v n xs hown a L.length c (cellVs L)
      (by rw [cellVs_len]) (by
        intro j u hj
        have hjl : j < L.length * 2 := by
          rcases Nat.lt_or_ge j (L.length * 2) with h | h
          · exact h
          · rw [List.getElem?_eq_none (by rw [cellVs_len]; exact h)] at hj; cases hj
        obtain ⟨b, off, e, _, hcell⟩ := hr.1 (by omega)
        injection e with e
        subst e
        have e2 : (⟨b, off, none⟩ : Addr).add j = ⟨b, off + j, none⟩ := by unfold Addr.add; split <;> simp_all
        obtain ⟨h1, h2⟩ := hcell (j / 2) (by omega)
        obtain ⟨g1, g2⟩ := cellVs_get L (j / 2) (by omega)
        rw [e2]
        rcases Nat.mod_two_eq_zero_or_one j with hm | hm
        · rw [show j / 2 * 2 = j by omega] at h1 g1
          rw [h1, ← g1, hj]
        · rw [show off + j / 2 * 2 + 1 = off + j by omega] at h2
          rw [show j / 2 * 2 + 1 = j by omega] at g2
          rw [h2, ← g2, hj]) (cellVs_one L) (by unfold maxLen; omega) (by omega) hb
    exact ⟨v', w', h1, h2, h3⟩

/-- slices.Grow of nil -/
theorem grow_c (n : Nat) (hn : n ≤ 100000) (w : World) :
    Calls Try.prog 45 #[.slice none 0 0, .int .i64 (n : Int)] w fun e w' => ∃ v, e = .returned v ∧ w'.ownsRow w.heap.size 48 2 v 0 [] ∧ Ext w w' := by
  by_cases h0 : n = 0
  · subst h0
    go_enter Try.func45, Try.ntmps45
    go_wp2
    go_ret
    exact ⟨_, rfl, World.ownsRow_nil _ _ _ _, Ext.refl _⟩
  · obtain ⟨i0, hi, hz0, hz1, hz2⟩ := info_parts cell_info
    have hrun : ∀ ty, (Builtin.append_ #[23, 3] ty #[.slice none 0 0, .int .i64 (n : Int)]).run Try.prog w = .ok (.slice (some ⟨w.heap.size, 0, none⟩) n (grownCap w n 0 48))
        (w.drew.alloc (.cells ((#[] : Array Value) ++ Builtin.zeroCells (Value.agg #[.int .u64 0, .int .u64 0]).cells n ++ Builtin.zeroCells (Value.agg #[.int .u64 0, .int .u64 0]).cells (grownCap w n 0 48 - n)) 48)) := fun ty => by
      have h := Lib.run_append_grow_zeros (P := Try.prog) w 23 3 ty 48 i0 _ .i64 .i64 Try.underlying23 Try.underlying3 hi hz0 none 0 0 [] (run_firstCells_none w.drew _ 0 0 0) n (by omega) (by omega) (by omega) (by omega) (by rw [hz2]; omega)
        (by exact growslice_fits (by omega) (by rw [hz2]; omega))
      rw [Nat.zero_add] at h
      exact h
    obtain ⟨G, hG⟩ : ∃ G, G = grownCap w n 0 48 := ⟨_, rfl⟩
    have hGn : n ≤ G := by rw [hG]; exact grownCap_ge w _ _ _
    have hGm : G ≤ maxLen := by rw [hG]; exact grownCap_le_maxLen w n 0 48 (by unfold maxLen; omega)
    rw [← hG] at hrun
    obtain ⟨cur, hcur⟩ : ∃ cur, cur = (#[] : Array Value) ++ Builtin.zeroCells (Value.agg #[.int .u64 0, .int .u64 0]).cells n ++ Builtin.zeroCells (Value.agg #[.int .u64 0, .int .u64 0]).cells (G - n) := ⟨_, rfl⟩
    have hsz : cur.size = G * 2 := by
      rw [hcur]
      simp only [Array.size_append, size_zeroCells]
      simp [Value.cells]; omega
    rw [← hcur] at hrun
    clear hcur hi hz0 hz1 hz2 hG
    have hp : (n : Int) > 0 := by omega
    have hG63 : G ≤ 9223372036854775807 := by unfold maxLen at hGm; omega
    go_enter Try.func45, Try.ntmps45
    go_wp2_with (at_builtin; refine Lib.wpList_append_run _ rfl _ _ _ _ rfl _ _ rfl rfl _ _ (hrun _) ?_)
    go_ret
    exact ⟨_, rfl, World.ownsRow_made w.drew cur G (by simp) hGm hsz, ((Ext.refl w).drew).alloc _⟩

/-- what a call that makes cells leaves -/
def MadeC (L : List (Nat × Nat)) (w : World) (e : Ending) (w' : World) : Prop :=
  ∃ v, e = .returned v ∧ w'.ownsRow w.heap.size 48 2 v L.length (cellVs L) ∧ Ext w w'

theorem wpList_append_run' {P : Program} (w : World) {ops : Array Oper} {rest : List Oper} {o : Oper} {a : Act} {Q : Exit → Act → World → Prop} (hg : o.guard = none) (s x : Operand) (t : TypeId)
    (ho : o.op = .call { callee := .builtin .append, args := #[s, x], argTypes := #[t, t] }) (u y : Value) (hs : a.eval s = u) (hx : a.eval x = y) (S : Value → World → Prop)
    (hrun : ∃ v' w', (Builtin.append_ #[t, t] o.type #[u, y]).run P w = .ok v' w' ∧ S v' w') (h : ∀ v' w', S v' w' → wpList P ops Q rest (a.put o.dst v') w') : wpList P ops Q (o :: rest) a w := by
  obtain ⟨v', w', hr, hS⟩ := hrun
  exact Lib.wpList_append_run w hg s x t _ ho u y hs hx v' w' hr (h v' w' hS)

def catK (L1 L2 L3 : List (Nat × Nat)) : Nat → List (Nat × Nat)
  | 0 => []
  | 1 => L1
  | 2 => L1 ++ L2
  | _ => L1 ++ (L2 ++ L3)

set_option maxRecDepth 100000 in
set_option maxHeartbeats 4000000 in
theorem concat_c (b : Nat) (A1 A2 A3 : Option Addr) (L1 L2 L3 : List (Nat × Nat)) (c1 c2 c3 : Nat) (w : World) (hb : b < w.heap.size)
    (h1 : w.cell? ⟨b, 0, none⟩ = some (.slice A1 L1.length c1)) (h2 : w.cell? ⟨b, 1, none⟩ = some (.slice A2 L2.length c2)) (h3 : w.cell? ⟨b, 2, none⟩ = some (.slice A3 L3.length c3))
    (r1 : RowL w A1 L1 c1) (r2 : RowL w A2 L2 c2) (r3 : RowL w A3 L3 c3) (hn : L1.length + L2.length + L3.length ≤ 100000) :
    Calls Try.prog 40 #[.slice (some ⟨b, 0, none⟩) 3 3] w (MadeC (L1 ++ (L2 ++ L3)) w) := by
  go_enter Try.func40, Try.ntmps40
  go_wp2
  go_loop [3, 11] (fun z i => ∃ k : Nat, k ≤ 3 ∧ i = .int .i64 k ∧ z = .int .i64 ((((if 0 < k then L1.length else 0) + (if 1 < k then L2.length else 0) + (if 2 < k then L3.length else 0) : Nat)) : Int)) (fun _ i => (3 - intOf i).toNat)
  case atStart => exact ⟨0, by omega, rfl, rfl⟩
  case round =>
    obtain ⟨k, hk, rfl, rfl⟩ := hrel
    rcases (show k = 0 ∨ k = 1 ∨ k = 2 ∨ k = 3 by omega) with rfl | rfl | rfl | rfl
    · simp only [Nat.lt_irrefl, if_false, Nat.not_lt_zero, Nat.add_zero, Nat.reduceLT, if_true, Nat.zero_add]
      have hd : decide (((L1.length : Int) : Int) < 0) = false := by simp only [decide_eq_false_iff_not]; omega
      go_wp2
      go_round
      case rel => exact ⟨1, by omega, rfl, by simp⟩
      case measure => simp [intOf]
    · simp only [Nat.lt_irrefl, if_false, Nat.not_lt_zero, Nat.add_zero, Nat.reduceLT, if_true, Nat.zero_add]
      have hd : decide (((L1.length : Int) + (L2.length : Int) : Int) < 0) = false := by simp only [decide_eq_false_iff_not]; omega
      go_wp2
      go_round
      case rel => exact ⟨2, by omega, rfl, by simp⟩
      case measure => simp [intOf]
    · simp only [Nat.lt_irrefl, if_false, Nat.not_lt_zero, Nat.add_zero, Nat.reduceLT, if_true, Nat.zero_add]
      have hd : decide (((L1.length : Int) + (L2.length : Int) + (L3.length : Int) : Int) < 0) = false := by simp only [decide_eq_false_iff_not]; omega
      go_wp2
      go_round
      case rel => exact ⟨3, by omega, rfl, by simp⟩
      case measure => simp [intOf]
    · simp only [Nat.lt_irrefl, if_false, Nat.not_lt_zero, Nat.add_zero, Nat.reduceLT, if_true, Nat.zero_add]
      go_wp2_with fail
      refine (grow_c _ hn _).mono ?_
      rintro e w1 ⟨v, rfl, hown, hE⟩
      go_wp2
      go_loopw [6, 27] (fun out i wr => ∃ k : Nat, k ≤ 3 ∧ i = .int .i64 k ∧ wr.ownsRow w.heap.size 48 2 out (catK L1 L2 L3 k).length (cellVs (catK L1 L2 L3 k)) ∧ Ext w wr) (fun _ i _ => (3 - intOf i).toNat)
      case atStart => exact ⟨0, by omega, rfl, hown, hE⟩
      case round =>
        obtain ⟨k, hk, rfl, hown2, hE2⟩ := hrel
        have hc1 : wr.cell? ⟨b, 0, none⟩ = some (.slice A1 L1.length c1) := (hE2.cell (p := ⟨b, 0, none⟩) hb).trans h1
        have hc2 : wr.cell? ⟨b, 1, none⟩ = some (.slice A2 L2.length c2) := (hE2.cell (p := ⟨b, 1, none⟩) hb).trans h2
        have hc3 : wr.cell? ⟨b, 2, none⟩ = some (.slice A3 L3.length c3) := (hE2.cell (p := ⟨b, 2, none⟩) hb).trans h3
        rcases (show k = 0 ∨ k = 1 ∨ k = 2 ∨ k = 3 by omega) with rfl | rfl | rfl | rfl
        · have hr := r1.ext hE2
          go_wp2_with (at_builtin; refine wpList_append_run' _ rfl _ _ _ rfl _ _ rfl rfl _ (run_append_cl wr w.heap.size _ _ _ hown2 A1 L1 c1 hr (by simp [catK]; omega) hE2.size _) ?_; rintro v3 w3 ⟨hown3, hgr⟩)
          have hE3 : Ext w w3 := Below.grown hE2 hgr hE2.size (fun k h => (hown2.lt k h).1)
          rw [← cellVs_app] at hown3
          have Ho := Lib.hid hown3
          clear hown3 hown2 hgr
          go_roundw
          case rel => exact ⟨1, by omega, rfl, by have := Ho.out; simpa [catK, Nat.add_assoc] using this, hE3⟩
          case measure => simp [intOf]
        · have hr := r2.ext hE2
          go_wp2_with (at_builtin; refine wpList_append_run' _ rfl _ _ _ rfl _ _ rfl rfl _ (run_append_cl wr w.heap.size _ _ _ hown2 A2 L2 c2 hr (by simp [catK]; omega) hE2.size _) ?_; rintro v3 w3 ⟨hown3, hgr⟩)
          have hE3 : Ext w w3 := Below.grown hE2 hgr hE2.size (fun k h => (hown2.lt k h).1)
          rw [← cellVs_app] at hown3
          have Ho := Lib.hid hown3
          clear hown3 hown2 hgr
          go_roundw
          case rel => exact ⟨2, by omega, rfl, by have := Ho.out; simpa [catK, Nat.add_assoc] using this, hE3⟩
          case measure => simp [intOf]
        · have hr := r3.ext hE2
          go_wp2_with (at_builtin; refine wpList_append_run' _ rfl _ _ _ rfl _ _ rfl rfl _ (run_append_cl wr w.heap.size _ _ _ hown2 A3 L3 c3 hr (by simp [catK]; omega) hE2.size _) ?_; rintro v3 w3 ⟨hown3, hgr⟩)
          have hE3 : Ext w w3 := Below.grown hE2 hgr hE2.size (fun k h => (hown2.lt k h).1)
          rw [← cellVs_app] at hown3
          have Ho := Lib.hid hown3
          clear hown3 hown2 hgr
          go_roundw
          case rel => exact ⟨3, by omega, rfl, by have := Ho.out; simpa [catK, Nat.add_assoc] using this, hE3⟩
          case measure => simp [intOf]
        · have Ho := Lib.hid hown2
          clear hown2
          go_wp2
          go_ret
          exact ⟨_, rfl, Ho.out, hE2⟩
end Go.Proofs.Ytcodgmahegofjaa
