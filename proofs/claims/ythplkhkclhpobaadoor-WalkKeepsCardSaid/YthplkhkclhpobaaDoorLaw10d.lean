/- WalkKeeps. -/
import Derived.Test.YthplkhkclhpobaaDoorLaw10c
import Derived.Laws.OwnMore
namespace Go.Proofs.YthplkhkclhpobaaDoor
open Go.ChangeShapes Go.WideShapes Go.ChangeAt Go.RowKit
set_option linter.unusedVariables false
set_option linter.unusedSimpArgs false
set_option maxRecDepth 100000

theorem own_empty (w : World) : (w.alloc (.cells #[] 61)).ownsRow w.heap.size 61 2 (.slice (some ⟨w.heap.size, 0, none⟩) 0 0) 0 [] :=
  World.ownsRow_lit (base := w.heap.size) (e := 61) (size := 2) w #[] 0 (Nat.le_refl _) (by unfold maxLen; omega) rfl
/-- a memory's cells appended to an empty slice that is the call's own -/
theorem copy_any {w : World} {base g0 : Nat} (h : w.ownsRow base 61 2 (.slice (some ⟨g0, 0, none⟩) 0 0) 0 []) (hb : base ≤ w.heap.size) {A : Option Addr} {L : List (Nat × Nat)} {c : Nat} (hr : RowL w A L c) (hn : L.length ≤ 1000) :
    ∃ A' c' w', (Builtin.append_ #[23, 23] 23 #[.slice (some ⟨g0, 0, none⟩) 0 0, .slice A L.length c]).run Tryd.prog w = .ok (.slice A' L.length c') w' ∧ RowL w' A' L c' ∧ Below base w w' ∧
      ∀ (g : Nat) (t : TypeId) (cs : Array Value), Blk w g t cs → g ≠ g0 → Blk w' g t cs := by
  obtain ⟨v', w', h1, h2, h3⟩ := run_append_cl w base _ 0 [] h A L c hr (by omega) hb 23
  rw [Nat.zero_add, List.nil_append] at h2
  obtain ⟨A', c', rfl, hr'⟩ := own_row h2
  exact ⟨A', c', w', h1, hr', Below.grown (Below.refl _ _) h3 hb (fun k hk => (h.lt k hk).1), fun g t cs hg hne => (h3.block g hg.lt (by simp [Value.ownBlock]; exact hne)).trans hg⟩
/-- a row of cells lies in no block of a memory -/
theorem row_out {w : World} {A : Option Addr} {L : List (Nat × Nat)} {c g : Nat} {t : TypeId} {u : Value} {B : Option Addr} {n k : Nat} (h : RowL w A L c) (hb : Blk w g t #[u, .slice B n k]) : Out g (g + 1) A L.length := fun a hl ha => by
  obtain ⟨b, off, rfl, hlt, hc⟩ := h.1 hl
  injection ha with ha
  subst ha
  show b < g ∨ g + 1 ≤ b
  by_cases e : b = g
  · subst e
    have h1 := (hb.cell (off + 0 * 2)).symm.trans (hc 0 hl).1
    have h2 := (hb.cell (off + 0 * 2 + 1)).symm.trans (hc 0 hl).2
    have h3 : off + 0 * 2 + 1 < 2 := by
      have := (Array.getElem?_eq_some_iff.1 h2).1
      simpa using this
    have h0 : off = 0 := by omega
    subst h0
    simp at h2
  · omega
theorem mem_build (S : Nat) (A : Option Addr) (n c : Nat) : Tryd.prog.built 25 [(0, .int .u64 (S : Int)), (1, .slice A n c)] = some #[.int .u64 (S : Int), .slice A n c] := by kernel_rfl
attribute [local irreducible] World.setRow World.alloc Blk
set_option maxHeartbeats 4000000 in
theorem WalkKeeps_w (S : Nat) (A : Option Addr) (L : List (Nat × Nat)) (c : Nat) (hS : S < 18446744073709551616) (hL : IsCells L) (r a : Nat) (y : Wy) (hr : r < 18446744073709551616) (ha : a < 18446744073709551616) (w : World) (hrow : RowL w A L c) (hT : Lay w) :
    Calls Tryd.prog 7 #[.agg #[.int .u64 (S : Int), .slice A L.length c], .int .u64 (r : Int), .int .u64 (a : Int), .agg (wyC y)] w fun e w' => e = .returned (.bool true) ∧ Ext w w' := by
  have HE := Lib.hid (((Ext.refl w).alloc (.cells #[.int .u64 (S : Int), .slice A L.length c] 25)).alloc (.cells (wyC y) 39))
  have hb : Blk ((w.alloc (.cells #[.int .u64 (S : Int), .slice A L.length c] 25)).alloc (.cells (wyC y) 39)) w.heap.size 25 #[.int .u64 (S : Int), .slice A L.length c] := (Blk.new w _ _).alloc _
  have hc : Blk ((w.alloc (.cells #[.int .u64 (S : Int), .slice A L.length c] 25)).alloc (.cells (wyC y) 39)) (w.heap.size + 1) 39 (wyC y) := blk_at (by simp)
  cases hf : fitT S L r
  · go_enter Tryd.func7, Tryd.ntmps7
    go_wp2_with fail
    refine (awake10_c _ (hT.ext HE.out)).mono ?_
    rintro e w' ⟨rfl, hE⟩
    (try replace hb := hb.ext hE); (try replace hc := hc.ext hE); (try replace h1 := h1.ext hE); (try replace h2 := h2.ext hE); (try replace hM := hM.ext hE); (try replace HE := Lib.hid (HE.out.trans hE))
    clear hE
    go_wp2_with (refine wpList_load_blk (by rfl) 25 _ rfl rfl (by with_reducible assumption) Tryd.underlying25 rfl (by kernel_rfl) ?_)
    refine (fits10_c S A L c r hS hL hr _ (hrow.ext HE.out)).mono ?_
    rintro e w' ⟨rfl, hE⟩
    (try replace hb := hb.ext hE); (try replace hc := hc.ext hE); (try replace h1 := h1.ext hE); (try replace h2 := h2.ext hE); (try replace hM := hM.ext hE); (try replace HE := Lib.hid (HE.out.trans hE))
    clear hE
    rw [hf]
    go_wp2_with fail
    refine (awake10_c _ (hT.ext HE.out)).mono ?_
    rintro e w' ⟨rfl, hE⟩
    (try replace hb := hb.ext hE); (try replace hc := hc.ext hE); (try replace h1 := h1.ext hE); (try replace h2 := h2.ext hE); (try replace hM := hM.ext hE); (try replace HE := Lib.hid (HE.out.trans hE))
    clear hE
    go_wp2
    go_ret
    exact ⟨rfl, HE.out⟩
  obtain ⟨hM, h300, hr44⟩ := fit10 hf hL hrow
  cases hy : wyIs y
  · go_enter Tryd.func7, Tryd.ntmps7
    go_wp2_with fail
    refine (awake10_c _ (hT.ext HE.out)).mono ?_
    rintro e w' ⟨rfl, hE⟩
    (try replace hb := hb.ext hE); (try replace hc := hc.ext hE); (try replace h1 := h1.ext hE); (try replace h2 := h2.ext hE); (try replace hM := hM.ext hE); (try replace HE := Lib.hid (HE.out.trans hE))
    clear hE
    go_wp2_with (refine wpList_load_blk (by rfl) 25 _ rfl rfl (by with_reducible assumption) Tryd.underlying25 rfl (by kernel_rfl) ?_)
    refine (fits10_c S A L c r hS hL hr _ (hrow.ext HE.out)).mono ?_
    rintro e w' ⟨rfl, hE⟩
    (try replace hb := hb.ext hE); (try replace hc := hc.ext hE); (try replace h1 := h1.ext hE); (try replace h2 := h2.ext hE); (try replace hM := hM.ext hE); (try replace HE := Lib.hid (HE.out.trans hE))
    clear hE
    rw [hf]
    go_wp2_with ((refine wpList_load_blk (by rfl) 39 _ rfl rfl (by with_reducible assumption) Tryd.underlying39 rfl (by kernel_rfl) ?_)); refine (ris8_c y _).mono ?_; rintro e w' ⟨rfl, hE⟩; (try replace hb := hb.ext hE); (try replace hc := hc.ext hE); (try replace h1 := h1.ext hE); (try replace h2 := h2.ext hE); (try replace hM := hM.ext hE); (try replace HE := Lib.hid (HE.out.trans hE))
    clear hE
    rw [hy]
    go_wp2_with fail
    refine (awake10_c _ (hT.ext HE.out)).mono ?_
    rintro e w' ⟨rfl, hE⟩
    (try replace hb := hb.ext hE); (try replace hc := hc.ext hE); (try replace h1 := h1.ext hE); (try replace h2 := h2.ext hE); (try replace hM := hM.ext hE); (try replace HE := Lib.hid (HE.out.trans hE))
    clear hE
    go_wp2
    go_ret
    exact ⟨rfl, HE.out⟩
  go_enter Tryd.func7, Tryd.ntmps7
  go_wp2_with fail
  refine (awake10_c _ (hT.ext HE.out)).mono ?_
  rintro e w' ⟨rfl, hE⟩
  (try replace hb := hb.ext hE); (try replace hc := hc.ext hE); (try replace h1 := h1.ext hE); (try replace h2 := h2.ext hE); (try replace hM := hM.ext hE); (try replace HE := Lib.hid (HE.out.trans hE))
  clear hE
  go_wp2_with (refine wpList_load_blk (by rfl) 25 _ rfl rfl (by with_reducible assumption) Tryd.underlying25 rfl (by kernel_rfl) ?_)
  refine (fits10_c S A L c r hS hL hr _ (hrow.ext HE.out)).mono ?_
  rintro e w' ⟨rfl, hE⟩
  (try replace hb := hb.ext hE); (try replace hc := hc.ext hE); (try replace h1 := h1.ext hE); (try replace h2 := h2.ext hE); (try replace hM := hM.ext hE); (try replace HE := Lib.hid (HE.out.trans hE))
  clear hE
  rw [hf]
  go_wp2_with ((refine wpList_load_blk (by rfl) 39 _ rfl rfl (by with_reducible assumption) Tryd.underlying39 rfl (by kernel_rfl) ?_)); refine (ris8_c y _).mono ?_; rintro e w' ⟨rfl, hE⟩; (try replace hb := hb.ext hE); (try replace hc := hc.ext hE); (try replace h1 := h1.ext hE); (try replace h2 := h2.ext hE); (try replace hM := hM.ext hE); (try replace HE := Lib.hid (HE.out.trans hE))
  clear hE
  rw [hy]
  clear hf
  go_wp2_with fail
  (try replace hb := Blk.drew hb); (try replace hc := Blk.drew hc); (try replace h1 := Blk.drew h1); (try replace h2 := Blk.drew h2); replace HE := Lib.hid HE.out.drew
  obtain ⟨wd, hwd⟩ : ∃ wd, wd = w'.drew := ⟨_, rfl⟩
  have hsz : w'.heap.size = wd.heap.size := by rw [hwd]; rfl
  have hlb := hb.lt
  refine wp_region_fork2 [(0, false), (1, false), (3, false), (4, false)] 2 [] 5 [(6, false), (7, true), (8, true)] 7 [(5, true), (6, false), (8, true)] 7 [(2, true), (5, true), (6, false), (8, true)] (Below w'.drew.heap.size) (by kernel_rfl) (by kernel_rfl) (Below.refl _) (fun _ _ _ => Below.trans) ?_
  simp only [List.map, nth_z, nth_s]
  rw [← hwd] at hb hc HE hlb ⊢
  clear hwd
  (repeat (first | (refine seq_skip (by rfl) ?_; intro K hK; simp only [Act.put, List.setIfInBounds_toArray, List.set_cons_zero, List.set_cons_succ]; refine hK _ ?_; clear hK K) | (refine seq_skipc (by rfl) ?_; intro K hK; simp only [Act.put, List.setIfInBounds_toArray, List.set_cons_zero, List.set_cons_succ]; refine hK _ ?_; clear hK K) | (refine seq_read (by rfl) (by rfl) ?_; intro K hK; go_big_quiet_op; first | go_big_quiet_on | (refine ⟨_, fun _ _ => rfl, ?_⟩; go_big_quiet_on))))
  refine seq_value (.int .u64 (S : Int)) (by rfl) (fun x hx => by have hq := (Below.cell hx (p := ⟨w.heap.size, 0, none⟩) (by simp; omega)).trans (hb.cell 0); simp [go_sem, execOp, Act.eval, hq]) ?_; intro K hK; simp only [Act.put, List.setIfInBounds_toArray, List.set_cons_zero, List.set_cons_succ]; refine hK _ ?_; clear hK K
  (repeat (first | (refine seq_skip (by rfl) ?_; intro K hK; simp only [Act.put, List.setIfInBounds_toArray, List.set_cons_zero, List.set_cons_succ]; refine hK _ ?_; clear hK K) | (refine seq_skipc (by rfl) ?_; intro K hK; simp only [Act.put, List.setIfInBounds_toArray, List.set_cons_zero, List.set_cons_succ]; refine hK _ ?_; clear hK K) | (refine seq_read (by rfl) (by rfl) ?_; intro K hK; go_big_quiet_op; first | go_big_quiet_on | (refine ⟨_, fun _ _ => rfl, ?_⟩; go_big_quiet_on))))
  refine seq_value (.slice A L.length c) (by rfl) (fun x hx => by have hq := (Below.cell hx (p := ⟨w.heap.size, 1, none⟩) (by simp; omega)).trans (hb.cell 1); simp [go_sem, execOp, Act.eval, hq]) ?_; intro K hK; simp only [Act.put, List.setIfInBounds_toArray, List.set_cons_zero, List.set_cons_succ]; refine hK _ ?_; clear hK K
  refine seq_done ?_
  clear hsz
  have HB0 : Below wd.heap.size wd wd := Below.refl _ _
  refine ⟨?_, ?_⟩
  · refine seq_run (.slice (some ⟨wd.heap.size, 0, none⟩) 0 0) (wd.alloc (.cells #[] 61)) (by rfl) ?_ (Below.alloc (Below.refl _ _) (Nat.le_refl _) _) ?_; (simp [go_sem, execOp, Act.eval]); intro K hK; simp only [Act.put, List.setIfInBounds_toArray, List.set_cons_zero, List.set_cons_succ]; refine hK _ _ ?_; clear hK K
    have hown := own_empty wd
    have HB1 : Below wd.heap.size wd (wd.alloc (.cells #[] 61)) := Below.alloc (Below.refl _ _) (Nat.le_refl _) _
    generalize hW1 : wd.alloc (.cells #[] 61) = W1 at hown HB1 ⊢
    have hz1 : wd.heap.size < W1.heap.size := by rw [← hW1]; simp
    clear hW1
    refine seq_done ?_
    refine seq_done ?_
    refine ⟨?_, ?_⟩
    · obtain ⟨A1, c1, W2, hrun, hr1, hbel, -⟩ := copy_any hown (by omega) (hrow.ext (HE.out.trans HB1)) (by omega)
      refine seq_append _ (W2) _ _ rfl rfl rfl rfl (by rfl) hrun hbel ?_; intro K hK; simp only [Act.put, List.setIfInBounds_toArray, List.set_cons_zero, List.set_cons_succ]; refine hK _ _ ?_; clear hK K
      replace HB1 : Below wd.heap.size wd W2 := HB1.trans hbel
      have hz2 := hbel.size
      clear hrun hbel hown
      refine seq_done ?_
      refine seq_build_as rfl (mem_build S A1 L.length c1) (by rfl) ?_; intro K hK; simp only [Act.put, List.setIfInBounds_toArray, List.set_cons_zero, List.set_cons_succ]; refine hK _ ?_; clear hK K
      refine seq_run (.pointer (some ⟨W2.heap.size, 0, none⟩)) (W2.alloc (.cells #[.int .u64 0, .slice none 0 0] 25)) (by rfl) ?_ (Below.alloc (Below.refl _ _) (by omega) _) ?_; (simp [go_sem, execOp, Act.eval]); intro K hK; simp only [Act.put, List.setIfInBounds_toArray, List.set_cons_zero, List.set_cons_succ]; refine hK _ _ ?_; clear hK K
      have h1 := Blk.new W2 25 #[.int .u64 0, .slice none 0 0]
      replace hr1 := hr1.ext ((Ext.refl W2).alloc (.cells #[.int .u64 0, .slice none 0 0] 25))
      replace HB1 : Below wd.heap.size wd (W2.alloc (.cells #[.int .u64 0, .slice none 0 0] 25)) := Below.alloc HB1 (by omega) _
      obtain ⟨gm, hgm⟩ : ∃ gm, gm = W2.heap.size := ⟨_, rfl⟩
      have hz3 : wd.heap.size ≤ gm := by omega
      rw [← hgm] at h1 ⊢
      clear hgm
      generalize W2.alloc (.cells #[.int .u64 0, .slice none 0 0] 25) = W3 at h1 hr1 HB1 ⊢
      refine seq_store_row rfl rfl rfl h1 (by kernel_rfl) (by rfl) (by simp [Value.oneCell']) (by rfl) (below_row (Below.refl _ _) (by omega) _) ?_
      intro K hK
      simp only [Act.put, List.setIfInBounds_toArray, List.set_cons_zero, List.set_cons_succ]
      refine hK _ _ ?_
      clear hK K
      refine seq_done ?_
      have hO0 := row_out hr1 h1
      replace hr1 := hr1.row hO0 (Nat.le_refl _) (Nat.lt_succ_self _) #[.int .u64 (S : Int), .slice A1 L.length c1]
      have hE : Ext wd (W3.setRow gm #[.int .u64 (S : Int), .slice A1 L.length c1]) := below_row HB1 (by omega) _
      replace h1 := h1.row #[.int .u64 (S : Int), .slice A1 L.length c1]
      have h2 := h1
      clear h1
      (try replace hb := hb.ext hE); (try replace hc := hc.ext hE); (try replace h1 := h1.ext hE); (try replace h2 := h2.ext hE); (try replace hM := hM.ext hE); (try replace HE := Lib.hid (HE.out.trans hE))
      have h1 := h2
      clear h2 hE HB1 hO0
      generalize W3.setRow gm #[.int .u64 (S : Int), .slice A1 L.length c1] = X at hb hc h1 hr1 HE ⊢
      have hM1 : Mem X S A1 L c1 := ⟨hr1, hM.rl, hM.ok, hM.few⟩
      go_wp2_with (first | (refine wpList_load_blk (by rfl) 25 _ rfl rfl (by first | exact h1 | exact h2 | exact hb | exact hc) Tryd.underlying25 rfl (by kernel_rfl) ?_) | (refine wpList_load_blk (by rfl) 31 _ rfl rfl (by first | exact h1 | exact h2 | exact hb | exact hc) Tryd.underlying31 rfl (by kernel_rfl) ?_) | (refine wpList_load_blk (by rfl) 33 _ rfl rfl (by first | exact h1 | exact h2 | exact hb | exact hc) Tryd.underlying33 rfl (by kernel_rfl) ?_) | (refine wpList_load_blk (by rfl) 39 _ rfl rfl (by first | exact h1 | exact h2 | exact hb | exact hc) Tryd.underlying39 rfl (by kernel_rfl) ?_) | (refine wpList_cmp (op := .eql) (by rfl) 31 rfl rfl rfl (lf_guard) ((fun w => run_b (eql_lf w _ _) (dec_same _))) ?_) | (refine wpList_cmp (op := .neq) (by rfl) 31 rfl rfl rfl (lf_guard) ((fun w => run_b (neq_lf w _ _) (dec_nots _))) ?_) | (refine wpList_cmp (op := .neq) (by rfl) 33 rfl rfl rfl (ft_guard) ((fun w => run_b (neq_ft w _ _) (dec_nots _))) ?_) | (refine wpList_cmp (op := .eql) (by rfl) 33 rfl rfl rfl (ft_guard) ((fun w => run_b (eql_ft w _ _) (dec_same _))) ?_))
      refine (walk_c hM1 (by omega) hr44 ha y hy (hT.ext HE.out)).mono ?_
      rintro e w' ⟨A2, c2, rfl, -, -, hE⟩
      replace hM1 := hM1.ext hE
      (try replace hb := hb.ext hE); (try replace hc := hc.ext hE); (try replace h1 := h1.ext hE); (try replace h2 := h2.ext hE); (try replace hM := hM.ext hE); (try replace HE := Lib.hid (HE.out.trans hE))
      clear hE
      go_wp2_with (first | (refine wpList_load_blk (by rfl) 25 _ rfl rfl (by first | exact h1 | exact h2 | exact hb | exact hc) Tryd.underlying25 rfl (by kernel_rfl) ?_) | (refine wpList_load_blk (by rfl) 31 _ rfl rfl (by first | exact h1 | exact h2 | exact hb | exact hc) Tryd.underlying31 rfl (by kernel_rfl) ?_) | (refine wpList_load_blk (by rfl) 33 _ rfl rfl (by first | exact h1 | exact h2 | exact hb | exact hc) Tryd.underlying33 rfl (by kernel_rfl) ?_) | (refine wpList_load_blk (by rfl) 39 _ rfl rfl (by first | exact h1 | exact h2 | exact hb | exact hc) Tryd.underlying39 rfl (by kernel_rfl) ?_) | (refine wpList_cmp (op := .eql) (by rfl) 31 rfl rfl rfl (lf_guard) ((fun w => run_b (eql_lf w _ _) (dec_same _))) ?_) | (refine wpList_cmp (op := .neq) (by rfl) 31 rfl rfl rfl (lf_guard) ((fun w => run_b (neq_lf w _ _) (dec_nots _))) ?_) | (refine wpList_cmp (op := .neq) (by rfl) 33 rfl rfl rfl (ft_guard) ((fun w => run_b (neq_ft w _ _) (dec_nots _))) ?_) | (refine wpList_cmp (op := .eql) (by rfl) 33 rfl rfl rfl (ft_guard) ((fun w => run_b (eql_ft w _ _) (dec_same _))) ?_))
      refine (same_x hM1 (hM.ext HE.out) rfl).mono ?_
      rintro e w' ⟨rfl, hE⟩
      (try replace hb := hb.ext hE); (try replace hc := hc.ext hE); (try replace h1 := h1.ext hE); (try replace h2 := h2.ext hE); (try replace hM := hM.ext hE); (try replace HE := Lib.hid (HE.out.trans hE))
      go_wp2
      go_ret
      exact ⟨rfl, HE.out⟩
    · refine seq_run (.pointer (some ⟨W1.heap.size, 0, none⟩)) (W1.alloc (.cells #[.int .u64 0, .slice none 0 0] 25)) (by rfl) ?_ (Below.alloc (Below.refl _ _) (by omega) _) ?_; (simp [go_sem, execOp, Act.eval]); intro K hK; simp only [Act.put, List.setIfInBounds_toArray, List.set_cons_zero, List.set_cons_succ]; refine hK _ _ ?_; clear hK K
      have h1 := Blk.new W1 25 #[.int .u64 0, .slice none 0 0]
      replace hown := World.ownsRow.alloc hown (.cells #[.int .u64 0, .slice none 0 0] 25)
      replace HB1 : Below wd.heap.size wd (W1.alloc (.cells #[.int .u64 0, .slice none 0 0] 25)) := Below.alloc HB1 (by omega) _
      obtain ⟨gm, hgm⟩ : ∃ gm, gm = W1.heap.size := ⟨_, rfl⟩
      have hz3 : wd.heap.size < gm := by omega
      rw [← hgm] at h1 ⊢
      clear hgm
      refine seq_done ?_
      have hz4 : wd.heap.size ≤ (W1.alloc (.cells #[.int .u64 0, .slice none 0 0] 25)).heap.size := HB1.size
      generalize W1.alloc (.cells #[.int .u64 0, .slice none 0 0] 25) = W2 at h1 hown HB1 hz4 ⊢
      obtain ⟨A1, c1, W3, hrun, hr1, hbel, hkp⟩ := copy_any hown hz4 (hrow.ext (HE.out.trans HB1)) (by omega)
      refine seq_append _ (W3) _ _ rfl rfl rfl rfl (by rfl) hrun hbel ?_; intro K hK; simp only [Act.put, List.setIfInBounds_toArray, List.set_cons_zero, List.set_cons_succ]; refine hK _ _ ?_; clear hK K
      replace HB1 : Below wd.heap.size wd W3 := HB1.trans hbel
      replace h1 := hkp _ _ _ h1 (by omega)
      clear hrun hbel hown hkp
      refine seq_build_as rfl (mem_build S A1 L.length c1) (by rfl) ?_; intro K hK; simp only [Act.put, List.setIfInBounds_toArray, List.set_cons_zero, List.set_cons_succ]; refine hK _ ?_; clear hK K
      refine seq_store_row rfl rfl rfl h1 (by kernel_rfl) (by rfl) (by simp [Value.oneCell']) (by rfl) (below_row (Below.refl _ _) (by omega) _) ?_
      intro K hK
      simp only [Act.put, List.setIfInBounds_toArray, List.set_cons_zero, List.set_cons_succ]
      refine hK _ _ ?_
      clear hK K
      refine seq_done ?_
      have hO0 := row_out hr1 h1
      replace hr1 := hr1.row hO0 (Nat.le_refl _) (Nat.lt_succ_self _) #[.int .u64 (S : Int), .slice A1 L.length c1]
      have hE : Ext wd (W3.setRow gm #[.int .u64 (S : Int), .slice A1 L.length c1]) := below_row HB1 (by omega) _
      replace h1 := h1.row #[.int .u64 (S : Int), .slice A1 L.length c1]
      have h2 := h1
      clear h1
      (try replace hb := hb.ext hE); (try replace hc := hc.ext hE); (try replace h1 := h1.ext hE); (try replace h2 := h2.ext hE); (try replace hM := hM.ext hE); (try replace HE := Lib.hid (HE.out.trans hE))
      have h1 := h2
      clear h2 hE HB1 hO0
      generalize W3.setRow gm #[.int .u64 (S : Int), .slice A1 L.length c1] = X at hb hc h1 hr1 HE ⊢
      have hM1 : Mem X S A1 L c1 := ⟨hr1, hM.rl, hM.ok, hM.few⟩
      go_wp2_with (first | (refine wpList_load_blk (by rfl) 25 _ rfl rfl (by first | exact h1 | exact h2 | exact hb | exact hc) Tryd.underlying25 rfl (by kernel_rfl) ?_) | (refine wpList_load_blk (by rfl) 31 _ rfl rfl (by first | exact h1 | exact h2 | exact hb | exact hc) Tryd.underlying31 rfl (by kernel_rfl) ?_) | (refine wpList_load_blk (by rfl) 33 _ rfl rfl (by first | exact h1 | exact h2 | exact hb | exact hc) Tryd.underlying33 rfl (by kernel_rfl) ?_) | (refine wpList_load_blk (by rfl) 39 _ rfl rfl (by first | exact h1 | exact h2 | exact hb | exact hc) Tryd.underlying39 rfl (by kernel_rfl) ?_) | (refine wpList_cmp (op := .eql) (by rfl) 31 rfl rfl rfl (lf_guard) ((fun w => run_b (eql_lf w _ _) (dec_same _))) ?_) | (refine wpList_cmp (op := .neq) (by rfl) 31 rfl rfl rfl (lf_guard) ((fun w => run_b (neq_lf w _ _) (dec_nots _))) ?_) | (refine wpList_cmp (op := .neq) (by rfl) 33 rfl rfl rfl (ft_guard) ((fun w => run_b (neq_ft w _ _) (dec_nots _))) ?_) | (refine wpList_cmp (op := .eql) (by rfl) 33 rfl rfl rfl (ft_guard) ((fun w => run_b (eql_ft w _ _) (dec_same _))) ?_))
      refine (walk_c hM1 (by omega) hr44 ha y hy (hT.ext HE.out)).mono ?_
      rintro e w' ⟨A2, c2, rfl, -, -, hE⟩
      replace hM1 := hM1.ext hE
      (try replace hb := hb.ext hE); (try replace hc := hc.ext hE); (try replace h1 := h1.ext hE); (try replace h2 := h2.ext hE); (try replace hM := hM.ext hE); (try replace HE := Lib.hid (HE.out.trans hE))
      clear hE
      go_wp2_with (first | (refine wpList_load_blk (by rfl) 25 _ rfl rfl (by first | exact h1 | exact h2 | exact hb | exact hc) Tryd.underlying25 rfl (by kernel_rfl) ?_) | (refine wpList_load_blk (by rfl) 31 _ rfl rfl (by first | exact h1 | exact h2 | exact hb | exact hc) Tryd.underlying31 rfl (by kernel_rfl) ?_) | (refine wpList_load_blk (by rfl) 33 _ rfl rfl (by first | exact h1 | exact h2 | exact hb | exact hc) Tryd.underlying33 rfl (by kernel_rfl) ?_) | (refine wpList_load_blk (by rfl) 39 _ rfl rfl (by first | exact h1 | exact h2 | exact hb | exact hc) Tryd.underlying39 rfl (by kernel_rfl) ?_) | (refine wpList_cmp (op := .eql) (by rfl) 31 rfl rfl rfl (lf_guard) ((fun w => run_b (eql_lf w _ _) (dec_same _))) ?_) | (refine wpList_cmp (op := .neq) (by rfl) 31 rfl rfl rfl (lf_guard) ((fun w => run_b (neq_lf w _ _) (dec_nots _))) ?_) | (refine wpList_cmp (op := .neq) (by rfl) 33 rfl rfl rfl (ft_guard) ((fun w => run_b (neq_ft w _ _) (dec_nots _))) ?_) | (refine wpList_cmp (op := .eql) (by rfl) 33 rfl rfl rfl (ft_guard) ((fun w => run_b (eql_ft w _ _) (dec_same _))) ?_))
      refine (same_x hM1 (hM.ext HE.out) rfl).mono ?_
      rintro e w' ⟨rfl, hE⟩
      (try replace hb := hb.ext hE); (try replace hc := hc.ext hE); (try replace h1 := h1.ext hE); (try replace h2 := h2.ext hE); (try replace hM := hM.ext hE); (try replace HE := Lib.hid (HE.out.trans hE))
      go_wp2
      go_ret
      exact ⟨rfl, HE.out⟩
  · refine seq_run (.pointer (some ⟨wd.heap.size, 0, none⟩)) (wd.alloc (.cells #[.int .u64 0, .slice none 0 0] 25)) (by rfl) ?_ (Below.alloc (Below.refl _ _) (Nat.le_refl _) _) ?_; (simp [go_sem, execOp, Act.eval]); intro K hK; simp only [Act.put, List.setIfInBounds_toArray, List.set_cons_zero, List.set_cons_succ]; refine hK _ _ ?_; clear hK K
    have h1 := Blk.new wd 25 #[.int .u64 0, .slice none 0 0]
    have HB1 : Below wd.heap.size wd (wd.alloc (.cells #[.int .u64 0, .slice none 0 0] 25)) := Below.alloc (Below.refl _ _) (Nat.le_refl _) _
    obtain ⟨gm, hgm⟩ : ∃ gm, gm = wd.heap.size := ⟨_, rfl⟩
    have hz3 : wd.heap.size ≤ gm := by omega
    have hz4 : gm < (wd.alloc (.cells #[.int .u64 0, .slice none 0 0] 25)).heap.size := by rw [hgm]; simp
    generalize hW1 : wd.alloc (.cells #[.int .u64 0, .slice none 0 0] 25) = W1 at h1 HB1 hz4 ⊢
    clear hW1
    refine seq_done ?_
    refine seq_run (.slice (some ⟨W1.heap.size, 0, none⟩) 0 0) (W1.alloc (.cells #[] 61)) (by rfl) ?_ (Below.alloc (Below.refl _ _) (by omega) _) ?_; (simp [go_sem, execOp, Act.eval]); intro K hK; simp only [Act.put, List.setIfInBounds_toArray, List.set_cons_zero, List.set_cons_succ]; refine hK _ _ ?_; clear hK K
    have hown := own_mono (own_empty W1) (show wd.heap.size ≤ W1.heap.size by omega)
    replace h1 := h1.alloc (.cells #[] 61)
    replace HB1 : Below wd.heap.size wd (W1.alloc (.cells #[] 61)) := Below.alloc HB1 (by omega) _
    have hz5 : wd.heap.size ≤ (W1.alloc (.cells #[] 61)).heap.size := HB1.size
    generalize W1.alloc (.cells #[] 61) = W2 at h1 hown HB1 hz5 ⊢
    obtain ⟨A1, c1, W3, hrun, hr1, hbel, hkp⟩ := copy_any hown hz5 (hrow.ext (HE.out.trans HB1)) (by omega)
    refine seq_append _ (W3) _ _ rfl rfl rfl rfl (by rfl) hrun hbel ?_; intro K hK; simp only [Act.put, List.setIfInBounds_toArray, List.set_cons_zero, List.set_cons_succ]; refine hK _ _ ?_; clear hK K
    replace HB1 : Below wd.heap.size wd W3 := HB1.trans hbel
    replace h1 := hkp _ _ _ h1 (by omega)
    rw [← hgm] at h1 ⊢
    clear hrun hbel hown hkp hgm
    refine seq_build_as rfl (mem_build S A1 L.length c1) (by rfl) ?_; intro K hK; simp only [Act.put, List.setIfInBounds_toArray, List.set_cons_zero, List.set_cons_succ]; refine hK _ ?_; clear hK K
    refine seq_store_row rfl rfl rfl h1 (by kernel_rfl) (by rfl) (by simp [Value.oneCell']) (by rfl) (below_row (Below.refl _ _) (by omega) _) ?_
    intro K hK
    simp only [Act.put, List.setIfInBounds_toArray, List.set_cons_zero, List.set_cons_succ]
    refine hK _ _ ?_
    clear hK K
    refine seq_done ?_
    have hO0 := row_out hr1 h1
    replace hr1 := hr1.row hO0 (Nat.le_refl _) (Nat.lt_succ_self _) #[.int .u64 (S : Int), .slice A1 L.length c1]
    have hE : Ext wd (W3.setRow gm #[.int .u64 (S : Int), .slice A1 L.length c1]) := below_row HB1 (by omega) _
    replace h1 := h1.row #[.int .u64 (S : Int), .slice A1 L.length c1]
    have h2 := h1
    clear h1
    (try replace hb := hb.ext hE); (try replace hc := hc.ext hE); (try replace h1 := h1.ext hE); (try replace h2 := h2.ext hE); (try replace hM := hM.ext hE); (try replace HE := Lib.hid (HE.out.trans hE))
    have h1 := h2
    clear h2 hE HB1 hO0
    generalize W3.setRow gm #[.int .u64 (S : Int), .slice A1 L.length c1] = X at hb hc h1 hr1 HE ⊢
    have hM1 : Mem X S A1 L c1 := ⟨hr1, hM.rl, hM.ok, hM.few⟩
    go_wp2_with (first | (refine wpList_load_blk (by rfl) 25 _ rfl rfl (by first | exact h1 | exact h2 | exact hb | exact hc) Tryd.underlying25 rfl (by kernel_rfl) ?_) | (refine wpList_load_blk (by rfl) 31 _ rfl rfl (by first | exact h1 | exact h2 | exact hb | exact hc) Tryd.underlying31 rfl (by kernel_rfl) ?_) | (refine wpList_load_blk (by rfl) 33 _ rfl rfl (by first | exact h1 | exact h2 | exact hb | exact hc) Tryd.underlying33 rfl (by kernel_rfl) ?_) | (refine wpList_load_blk (by rfl) 39 _ rfl rfl (by first | exact h1 | exact h2 | exact hb | exact hc) Tryd.underlying39 rfl (by kernel_rfl) ?_) | (refine wpList_cmp (op := .eql) (by rfl) 31 rfl rfl rfl (lf_guard) ((fun w => run_b (eql_lf w _ _) (dec_same _))) ?_) | (refine wpList_cmp (op := .neq) (by rfl) 31 rfl rfl rfl (lf_guard) ((fun w => run_b (neq_lf w _ _) (dec_nots _))) ?_) | (refine wpList_cmp (op := .neq) (by rfl) 33 rfl rfl rfl (ft_guard) ((fun w => run_b (neq_ft w _ _) (dec_nots _))) ?_) | (refine wpList_cmp (op := .eql) (by rfl) 33 rfl rfl rfl (ft_guard) ((fun w => run_b (eql_ft w _ _) (dec_same _))) ?_))
    refine (walk_c hM1 (by omega) hr44 ha y hy (hT.ext HE.out)).mono ?_
    rintro e w' ⟨A2, c2, rfl, -, -, hE⟩
    replace hM1 := hM1.ext hE
    (try replace hb := hb.ext hE); (try replace hc := hc.ext hE); (try replace h1 := h1.ext hE); (try replace h2 := h2.ext hE); (try replace hM := hM.ext hE); (try replace HE := Lib.hid (HE.out.trans hE))
    clear hE
    go_wp2_with (first | (refine wpList_load_blk (by rfl) 25 _ rfl rfl (by first | exact h1 | exact h2 | exact hb | exact hc) Tryd.underlying25 rfl (by kernel_rfl) ?_) | (refine wpList_load_blk (by rfl) 31 _ rfl rfl (by first | exact h1 | exact h2 | exact hb | exact hc) Tryd.underlying31 rfl (by kernel_rfl) ?_) | (refine wpList_load_blk (by rfl) 33 _ rfl rfl (by first | exact h1 | exact h2 | exact hb | exact hc) Tryd.underlying33 rfl (by kernel_rfl) ?_) | (refine wpList_load_blk (by rfl) 39 _ rfl rfl (by first | exact h1 | exact h2 | exact hb | exact hc) Tryd.underlying39 rfl (by kernel_rfl) ?_) | (refine wpList_cmp (op := .eql) (by rfl) 31 rfl rfl rfl (lf_guard) ((fun w => run_b (eql_lf w _ _) (dec_same _))) ?_) | (refine wpList_cmp (op := .neq) (by rfl) 31 rfl rfl rfl (lf_guard) ((fun w => run_b (neq_lf w _ _) (dec_nots _))) ?_) | (refine wpList_cmp (op := .neq) (by rfl) 33 rfl rfl rfl (ft_guard) ((fun w => run_b (neq_ft w _ _) (dec_nots _))) ?_) | (refine wpList_cmp (op := .eql) (by rfl) 33 rfl rfl rfl (ft_guard) ((fun w => run_b (eql_ft w _ _) (dec_same _))) ?_))
    refine (same_x hM1 (hM.ext HE.out) rfl).mono ?_
    rintro e w' ⟨rfl, hE⟩
    (try replace hb := hb.ext hE); (try replace hc := hc.ext hE); (try replace h1 := h1.ext hE); (try replace h2 := h2.ext hE); (try replace hM := hM.ext hE); (try replace HE := Lib.hid (HE.out.trans hE))
    go_wp2
    go_ret
    exact ⟨rfl, HE.out⟩
end Go.Proofs.YthplkhkclhpobaaDoor
