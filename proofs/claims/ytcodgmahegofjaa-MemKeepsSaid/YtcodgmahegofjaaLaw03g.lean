/- MemKeeps: what is handed in stays; what is answered is new memory. -/
import Derived.Test.YtcodgmahegofjaaLaw03c
namespace Go.Proofs.Ytcodgmahegofjaa
open Go.ChangeShapes Go.WideShapes Go.ChangeAt Go.RowKit
set_option linter.unusedVariables false
set_option linter.unusedSimpArgs false

/-- 'append([]api.Cell{}, cells...)' -/
theorem copy_cl (w : World) (A : Option Addr) (L : List (Nat × Nat)) (c : Nat) (hr : RowL w A L c) (hn : L.length ≤ 1000) :
    ∃ g co w', (Builtin.append_ #[23, 23] 23 #[.slice (some ⟨w.heap.size, 0, none⟩) 0 0, .slice A L.length c]).run Try.prog (w.alloc (.cells #[] 48)) = .ok (.slice (some ⟨g, 0, none⟩) L.length co) w' ∧
      w'.ownsRow w.heap.size 48 2 (.slice (some ⟨g, 0, none⟩) L.length co) L.length (cellVs L) ∧ w.heap.size ≤ g ∧ g < w'.heap.size ∧ Ext w w' := by
  have ho := World.ownsRow_lit (base := w.heap.size) (e := 48) (size := 2) w #[] 0 (Nat.le_refl _) (by unfold maxLen; omega) rfl
  have hal := (Ext.refl w).alloc (.cells #[] 48)
  have hr1 := hr.ext hal
  obtain ⟨i0, hi, hz0, hz1, hz2⟩ := info_parts cell_info
  rcases A with _ | a
  · obtain ⟨rfl, rfl⟩ := hr.2.1 rfl
    have h := run_append_owned_none (P := Try.prog) (w.alloc (.cells #[] 48)) w.heap.size 23 23 48 i0 2 Try.underlying23 hi _ 0 [] ho
    exact ⟨w.heap.size, 0, _, h, ho, Nat.le_refl _, by rw [World.size_alloc]; omega, hal⟩
  · obtain ⟨v', w', h1, h2, h3⟩ := run_append_cl (w.alloc (.cells #[] 48)) w.heap.size _ 0 [] ho (some a) L c hr1 (by omega) (by rw [World.size_alloc]; omega) 23
    rw [Nat.zero_add, List.nil_append] at h2
    have hE : Ext w w' := Below.grown hal h3 (by rw [World.size_alloc]; omega) (fun k hk => (ho.lt k hk).1)
    rcases Nat.eq_zero_or_pos L.length with h0 | hp
    · have hL : L = [] := List.eq_nil_of_length_eq_zero h0
      subst hL
      obtain ⟨v2, w2, g1, g2, g3, g4, g5⟩ := run_append_own_at (P := Try.prog) (w.alloc (.cells #[] 48)) w.heap.size 23 23 48 i0 _ 2 16 Try.underlying23 hi hz0 hz1 hz2 rfl (by decide) _ 0 [] ho a 0 c []
        rfl (by intro j u hj; simp at hj) (by intro u hu; simp at hu) (by unfold maxLen; omega) (by omega) (by rw [World.size_alloc]; omega)
      have hE2 : Ext w w2 := Below.grown hal g3 (by rw [World.size_alloc]; omega) (fun k hk => (ho.lt k hk).1)
      rcases g2.2 with ⟨hv, _⟩ | ⟨g, cap, cur, hv, hbg, hh, _⟩
      · have := (g4.1 hv).1
        cases this
      · subst hv
        exact ⟨g, cap, w2, g1, g2, hbg, (Array.getElem?_eq_some_iff.1 hh).1, hE2⟩
    · rcases h2.2 with ⟨_, h0⟩ | ⟨g, cap, cur, hv, hbg, hh, _⟩
      · omega
      · subst hv
        exact ⟨g, cap, w', h1, h2, hbg, (Array.getElem?_eq_some_iff.1 hh).1, hE⟩

/-- what lies elsewhere stays while a row is written -/
theorem gk_cell {w w' : World} {g : Nat} (hg : w.grownBy w' (some g)) {b o : Nat} {v : Value} (hc : w.cell? ⟨b, o, none⟩ = some v) (hne : b ≠ g) : w'.cell? ⟨b, o, none⟩ = some v :=
  (World.cell?_of_block (w := w) (hg.block b (block_lt_of_cell hc) (by simpa using hne))).trans hc
theorem gk_row {w w' : World} {g : Nat} (hg : w.grownBy w' (some g)) {A : Option Addr} {L : List (Nat × Nat)} {c : Nat} (h : RowL w A L c) (hne : ∀ a, 0 < L.length → A = some a → a.block ≠ g) : RowL w' A L c := by
  refine ⟨fun hl => ?_, h.2⟩
  obtain ⟨b, off, rfl, hlt, hc⟩ := h.1 hl
  have hb := hne _ hl rfl
  exact ⟨b, off, rfl, Nat.lt_of_lt_of_le hlt hg.size, fun i hi => ⟨gk_cell hg (hc i hi).1 hb, gk_cell hg (hc i hi).2 hb⟩⟩
theorem gk_trans {a b c : World} {r : Option Nat} (h : a.grownBy b r) (k : b.grownBy c r) : a.grownBy c r :=
  ⟨k.os.trans h.os, k.tape.trans h.tape, k.output.trans h.output, Nat.le_trans h.size k.size, fun i hi hne => (k.block i (Nat.lt_of_lt_of_le hi h.size) hne).trans (h.block i hi hne)⟩
theorem gk_set2 {w : World} {base g n cap : Nat} {xs : List Value} (h : w.ownsRow base 48 2 (.slice (some ⟨g, 0, none⟩) n cap) n xs) (j : Nat) (u v : Value) :
    (∃ ys, ((w.setCell ⟨g, j, none⟩ u).setCell ⟨g, j + 1, none⟩ v).ownsRow base 48 2 (.slice (some ⟨g, 0, none⟩) n cap) n ys) ∧ w.grownBy ((w.setCell ⟨g, j, none⟩ u).setCell ⟨g, j + 1, none⟩ v) (some g) := by
  obtain ⟨h1, g1⟩ := h.stored j u
  obtain ⟨h2, g2⟩ := h1.stored (j + 1) v
  exact ⟨⟨_, h2⟩, gk_trans g1 g2⟩

theorem own_kept {w w' : World} {g b : Nat} {e : TypeId} {size n : Nat} {v : Value} {xs : List Value} (h : w.ownsRow b e size v n xs) (hg : g < b) (hk : w.grownBy w' (some g)) : w'.ownsRow b e size v n xs := by
  refine h.kept hk ?_
  cases hv : v.ownBlock with
  | none => exact .inl rfl
  | some k =>
    refine .inr fun e => ?_
    injection e with e
    have := (h.lt k hv).1
    omega
theorem clearL_len (L : List (Nat × Nat)) {p q : Nat} (h : p ≤ q) : (clearL L p q).length ≤ L.length := cutL_len h []
theorem clear_0 (S : Nat) (A : Option Addr) (L : List (Nat × Nat)) (c d m : Nat) (hL : RL m L) (hd : 8 * d < 18446744073709551616) (hn : L.length ≤ 40000) (w : World) (hr : RowL w A L c) :
    Calls Try.prog 22 #[.agg #[.int .u64 (S : Int), .slice A L.length c], .int .u64 0, .int .u64 ((8 * d : Nat) : Int)] w (MadeM S (clearL L 0 d) w) := by
  have h := clear_c S A L c 0 (8 * d) m hL (by omega) (by omega) hd hn w hr
  rwa [show 0 / 8 = 0 from rfl, show 8 * d / 8 = d by omega, Nat.zero_add] at h
theorem rclear_0 {w : World} {S : Nat} {A : Option Addr} {L : List (Nat × Nat)} {c : Nat} (h : Mem w S A L c) {d : Nat} (hp : 8 * d < 1152921504606846976) :
    Calls Try.prog 23 #[.agg #[.int .u64 (S : Int), .slice A L.length c], .int .u64 0, .int .u64 ((8 * d : Nat) : Int)] w fun e w' =>
      ∃ A' c', e = .returned (.agg #[.int .u64 (S : Int), .slice A' (clearL L 0 d).length c']) ∧ Mem w' S A' (clearL L 0 d) c' ∧ Ext w w' := by
  have hk := rclear_x h (p := 0) (d := d) (by omega)
  rw [Nat.zero_add] at hk
  exact hk
attribute [local irreducible] storeL loadL wordL clearL

set_option maxRecDepth 100000 in
set_option maxHeartbeats 4000000 in
theorem MemKeeps_w (S : Nat) (A : Option Addr) (L : List (Nat × Nat)) (c at' : Nat) (size : Int) (v : Nat) (hS : S < 18446744073709551616) (hL : IsCells L)
    (a1 : at' < 18446744073709551616) (z0 : -9223372036854775808 ≤ size) (z1 : size ≤ 9223372036854775807) (v1 : v < 18446744073709551616) (w : World) (hr : RowL w A L c) :
    Calls Try.prog 7 #[.agg #[.int .u64 (S : Int), .slice A L.length c], .int .u64 (at' : Int), .int .i64 size, .int .u64 (v : Int)] w fun e w' => e = .returned (.bool true) ∧ Ext w w' := by
  cases hf : fitB S L
  · go_enter Try.func7, Try.ntmps7
    go_wp2_with fail; refine (awake3_c _).mono ?_; rintro e w1 ⟨rfl, hE1⟩; obtain ⟨hb0, hb1⟩ := box_mem hE1; have HE := Lib.hid (((Ext.refl w).alloc _).trans hE1); clear hE1; go_wp2_with fail; refine (fits_c S A L c hS hL _ (hr.1.ext HE.out)).mono ?_; rintro e w2 ⟨rfl, hE⟩; replace hb0 := ext_cell hE hb0; replace hb1 := ext_cell hE hb1; replace HE := Lib.hid (HE.out.trans hE); clear hE; rw [hf]
    go_wp2_with fail; refine (awake3_c _).mono ?_; rintro e w9 ⟨rfl, hE⟩; replace HE := Lib.hid (HE.out.trans hE); clear hE; go_wp2; go_ret; exact ⟨rfl, HE.out⟩
  obtain ⟨hM, h3⟩ := fit_mem hf hL hr
  obtain ⟨d, hq⟩ : ∃ d : Nat, (S : Int) / 16 * 8 = 8 * (d : Int) := ⟨S / 16, by omega⟩
  have hSm := hM.ok.le
  go_enter Try.func7, Try.ntmps7
  go_wp2_with fail; refine (awake3_c _).mono ?_; rintro e w1 ⟨rfl, hE1⟩; obtain ⟨hb0, hb1⟩ := box_mem hE1; have HE := Lib.hid (((Ext.refl w).alloc _).trans hE1); clear hE1; go_wp2_with fail; refine (fits_c S A L c hS hL _ (hr.1.ext HE.out)).mono ?_; rintro e w2 ⟨rfl, hE⟩; replace hb0 := ext_cell hE hb0; replace hb1 := ext_cell hE hb1; replace HE := Lib.hid (HE.out.trans hE); clear hE; rw [hf]
  have hM2 := hM.ext HE.out
  obtain ⟨g, co, w3, hrun, hown, hg1, hg2, hE⟩ := copy_cl w2 A L c hM2.row (by omega)
  have Hrun := Lib.hid hrun
  clear hrun
  replace hM2 := hM2.ext hE
  have hs2 : w.heap.size < w2.heap.size := block_lt_of_cell hb0
  have hs3 := hE.size
  have hb0' := ext_cell hE hb0
  have hb1' := ext_cell hE hb1
  go_wp2_with (at_builtin; refine Lib.wpList_append_run _ rfl _ _ _ _ rfl _ _ rfl rfl _ _ Hrun.out ?_)
  replace HE := Lib.hid (HE.out.trans hE)
  clear hE hb0 hb1
  obtain ⟨A0, c0, e1, hX0⟩ := own_row hown
  injection e1 with e1 e2 e3
  subst e1 e3
  have hX : Mem w3 S (some ⟨g, 0, none⟩) L co := ⟨hX0, hM.rl, hM.ok, hM.few⟩
  have hAne : ∀ a, 0 < L.length → A = some a → a.block ≠ g := fun a hp ha => by
    obtain ⟨b, off, hb, hlt, _⟩ := hr.1 hp
    rw [hb] at ha
    injection ha with ha
    subst ha
    show b ≠ g
    omega
  clear hX0 e2
  by_cases he : errN size at' S = 0
  · obtain ⟨s, rfl, hz, q1, q2⟩ : ∃ s : Nat, size = s ∧ IsSize s ∧ at' % s = 0 ∧ at' < S := by
      rcases errN_ways size at' S with ⟨_, h⟩ | ⟨s, rfl, hz, ⟨_, h⟩ | ⟨_, _, h⟩ | ⟨h2, h3, h⟩⟩
      · omega
      · omega
      · omega
      · exact ⟨s, rfl, hz, h2, h3⟩
    clear he
    refine (store_c S (some ⟨g, 0, none⟩) L co at' s v (S / 8) hM.rl a1 v1 hz q1 q2 (by omega) _ (hX.row.ext ((Ext.refl w3).alloc _))).mono ?_
    rintro e w4 ⟨u, rfl, hownA, hE0⟩
    rw [World.size_alloc] at hownA
    obtain ⟨A1, c1, rfl, hrA⟩ := own_row hownA
    clear hrA
    have hE4 := ((Ext.refl w3).alloc _).trans hE0
    obtain ⟨hx0, hx1⟩ := box_mem hE0
    replace hM2 := hM2.ext hE4
    replace hX := hX.ext hE4
    replace hown := own_ext hown hE4
    replace hb0' := ext_cell hE4 hb0'
    replace hb1' := ext_cell hE4 hb1'
    replace HE := Lib.hid (HE.out.trans hE4)
    have hs4 := hE0.size
    rw [World.size_alloc] at hs4
    clear hE0 hE4
    have lm := block_lt_of_cell hb0'
    have lx := block_lt_of_cell hx0
    go_wp2_with fail
    refine (clear_0 S (some ⟨g, 0, none⟩) L co d (S / 8) hM.rl (by omega) (by omega) _ (hX.row.ext ((Ext.refl w4).alloc _))).mono ?_
    rintro e w5 ⟨u2, rfl, hownC, hE0⟩
    rw [World.size_alloc] at hownC
    obtain ⟨A2, c2, rfl, hrC⟩ := own_row hownC
    clear hrC
    have hE5 := ((Ext.refl w4).alloc _).trans hE0
    obtain ⟨ha0, ha1⟩ := box_mem hE0
    replace hownA := own_ext hownA hE5
    replace hM2 := hM2.ext hE5
    replace hX := hX.ext hE5
    replace hown := own_ext hown hE5
    replace hb0' := ext_cell hE5 hb0'
    replace hb1' := ext_cell hE5 hb1'
    replace hx0 := ext_cell hE5 hx0
    replace hx1 := ext_cell hE5 hx1
    replace HE := Lib.hid (HE.out.trans hE5)
    have hs5 := hE5.size
    clear hE0 hE5
    replace lm := block_lt_of_cell hb0'
    replace lx := block_lt_of_cell hx0
    go_wp2_with fail
    refine (same_x (hX.ext ((Ext.refl w5).alloc _)) (hM2.ext ((Ext.refl w5).alloc _)) rfl).mono ?_
    rintro e w6 ⟨rfl, hE0⟩
    have hE6 := ((Ext.refl w5).alloc _).trans hE0
    obtain ⟨hc0, hc1⟩ := box_mem hE0
    replace hownA := own_ext hownA hE6
    replace hownC := own_ext hownC hE6
    replace hM2 := hM2.ext hE6
    replace hown := own_ext hown hE6
    replace hb0' := ext_cell hE6 hb0'
    replace hb1' := ext_cell hE6 hb1'
    replace ha0 := ext_cell hE6 ha0
    replace ha1 := ext_cell hE6 ha1
    replace HE := Lib.hid (HE.out.trans hE6)
    have hs6 := hE6.size
    clear hE0 hE6 hx0 hx1 lx lm hX
    go_wp2
    go_loopw [14] (fun i wr => ∃ k : Nat, k ≤ L.length ∧ i = .int .i64 k ∧ (∃ xs, wr.ownsRow w2.heap.size 48 2 (.slice (some ⟨g, 0, none⟩) L.length co) L.length xs) ∧ w6.grownBy wr (some g)) (fun i _ => (L.length - intOf i).toNat)
    case atStart => exact ⟨0, by omega, rfl, ⟨_, hown⟩, World.grownBy.refl w6 _⟩
    case round =>
      obtain ⟨k, hk, rfl, ⟨xs, how⟩, hgk⟩ := hrel
      by_cases hlt : k < L.length
      · have hz : (k : Int) < (L.length : Int) := by omega
        have hxl := how.1
        have e1 := how.cellAt (k * 2) (by omega)
        have e2 := how.cellAt (k * 2 + 1) (by omega)
        rw [List.getElem?_eq_getElem (by omega)] at e1 e2
        have f1 := how.frozenAt (k * 2)
        have f2 := how.frozenAt (k * 2 + 1)
        obtain ⟨hn1, hn2⟩ := gk_set2 how (k * 2) (.int .u64 7) (.int .u64 7)
        have Hn := Lib.hid (And.intro hn1 (gk_trans hgk hn2))
        clear hn1 hn2 how hgk hown
        go_wp2
        go_roundw
        case rel => exact ⟨k + 1, by omega, by go_num, Hn.out.1, Hn.out.2⟩
        case measure => simp [intOf]; omega
      · clear hown
        replace hownA := own_kept hownA (g := g) (by omega) hgk
        replace hownC := own_kept hownC (g := g) (by omega) hgk
        have hMr : Mem wr S A L c := ⟨gk_row hgk hM2.row hAne, hM2.rl, hM2.ok, hM2.few⟩
        replace hb0' := gk_cell hgk hb0' (by omega)
        replace hb1' := gk_cell hgk hb1' (by omega)
        replace ha0 := gk_cell hgk ha0 (by omega)
        replace ha1 := gk_cell hgk ha1 (by omega)
        replace hc0 := gk_cell hgk hc0 (by omega)
        replace hc1 := gk_cell hgk hc1 (by omega)
        replace HE : Hid (Ext w wr) := Lib.hid (Below.grown HE.out hgk (by omega) (fun k hk => by injection hk with hk; omega))
        have hs7 := hgk.size
        clear hgk how hM2
        obtain ⟨A1', c1', e1, hrA⟩ := own_row hownA
        injection e1 with e1 e2 e3
        subst e1 e3
        obtain ⟨A2', c2', e4, hrC⟩ := own_row hownC
        injection e4 with e4 e5 e6
        subst e4 e6
        have hMc : Mem wr S A2 (clearL L 0 d) c2 := ⟨hrC, clearL_is hM.rl (by omega), hM.ok, by have := clearL_len L (show 0 ≤ d by omega); omega⟩
        have hMa : Mem wr S A1 (storeL L at' s v) c1 := ⟨hrA, storeL_is hM.rl (by have := hM.ok.mod8; omega) s v, hM.ok, by have := storeL_len L at' s v; omega⟩
        clear hownC e5
        go_wp2_with fail
        clear hownA e2
        refine (rstore_c S A L c at' s v hM.rl hM.ok.mod8 a1 v1 hz q1 q2 (by omega) _ hMr.row).mono ?_
        rintro e w7 ⟨u3, rfl, hownB, hE⟩
        obtain ⟨A3, c3, rfl, hrB⟩ := own_row hownB
        have hMb : Mem w7 S A3 (storeL L at' s v) c3 := ⟨hrB, hMa.rl, hM.ok, hMa.few⟩
        clear hownB hrB
        replace hMa := hMa.ext hE
        replace hMc := hMc.ext hE
        replace hMr := hMr.ext hE
        replace hb0' := ext_cell hE hb0'
        replace hb1' := ext_cell hE hb1'
        replace ha0 := ext_cell hE ha0
        replace ha1 := ext_cell hE ha1
        replace hc0 := ext_cell hE hc0
        replace hc1 := ext_cell hE hc1
        replace HE := Lib.hid (HE.out.trans hE)
        clear hE
        have lm := block_lt_of_cell hb0'
        have la := block_lt_of_cell ha0
        have lc := block_lt_of_cell hc0
        go_wp2_with fail
        have hE := ((Ext.refl w7).alloc (.cells #[.int .u64 (S : Int), (.slice A3 (storeL L at' s v).length c3)] 25)).drew
        have hbb0 : (w7.alloc (.cells #[.int .u64 (S : Int), (.slice A3 (storeL L at' s v).length c3)] 25)).drew.cell? ⟨w7.heap.size, 0, none⟩ = some (.int .u64 (S : Int)) := (cell_of_row _ _ 0 _ _ _ (heap_alloc_new w7 _)).trans rfl
        have hbb1 : (w7.alloc (.cells #[.int .u64 (S : Int), (.slice A3 (storeL L at' s v).length c3)] 25)).drew.cell? ⟨w7.heap.size, 1, none⟩ = some (.slice A3 (storeL L at' s v).length c3) := (cell_of_row _ _ 1 _ _ _ (heap_alloc_new w7 _)).trans rfl
        replace hMa := hMa.ext hE
        replace hMb := hMb.ext hE
        replace hMc := hMc.ext hE
        replace hMr := hMr.ext hE
        replace hb0' := ext_cell hE hb0'
        replace hb1' := ext_cell hE hb1'
        replace ha0 := ext_cell hE ha0
        replace ha1 := ext_cell hE ha1
        replace hc0 := ext_cell hE hc0
        replace hc1 := ext_cell hE hc1
        replace HE := Lib.hid (HE.out.trans hE)
        clear hE
        refine wp_region_seq [(0, false), (1, false), (2, false), (3, false), (4, false), (5, true), (6, false), (7, false), (8, false), (9, false), (10, false), (11, false), (12, false), (13, false), (14, true), (15, true), (16, false), (17, false)] Ext (by kernel_rfl) (by kernel_rfl) Ext.refl (fun _ _ _ => Ext.trans) ?_; simp only [List.map, nth_z, nth_s]
        (repeat (first | (refine seq_skip (by rfl) ?_; intro K hK; simp only [Act.put, List.setIfInBounds_toArray, List.set_cons_zero, List.set_cons_succ]; refine hK _ ?_; clear hK K) | (refine seq_skipc (by rfl) ?_; intro K hK; simp only [Act.put, List.setIfInBounds_toArray, List.set_cons_zero, List.set_cons_succ]; refine hK _ ?_; clear hK K) | (refine seq_read (by rfl) (by rfl) ?_; intro K hK; go_big_quiet_op; first | go_big_quiet_on | (refine ⟨_, fun _ _ => rfl, ?_⟩; go_big_quiet_on))))
        refine seq_value (.agg #[(.int .u64 (S : Int)), (.slice A1 (storeL L at' s v).length c1)]) (by rfl) (fun x hx => by have hq0 := ext_cell hx ha0; have hq1 := ext_cell hx ha1; simp [go_sem, execOp, Act.eval, hq0, hq1]) ?_; intro K hK; simp only [Act.put, List.setIfInBounds_toArray, List.set_cons_zero, List.set_cons_succ]; refine hK _ ?_; clear hK K
        refine seq_value (.agg #[(.int .u64 (S : Int)), (.slice A3 (storeL L at' s v).length c3)]) (by rfl) (fun x hx => by have hq0 := ext_cell hx hbb0; have hq1 := ext_cell hx hbb1; simp [go_sem, execOp, Act.eval, hq0, hq1]) ?_; intro K hK; simp only [Act.put, List.setIfInBounds_toArray, List.set_cons_zero, List.set_cons_succ]; refine hK _ ?_; clear hK K
        refine seq_call (same_x hMa hMb rfl) rfl Try.func13 (by kernel_rfl) (by kernel_rfl) (by rfl) (by rfl) ?_; intro K hK; rintro e w' ⟨rfl, hE⟩; refine ⟨_, rfl, hE, ?_⟩; simp only [Act.put, List.setIfInBounds_toArray, List.set_cons_zero, List.set_cons_succ]; refine hK _ _ ?_; clear hK K
        replace hMc := hMc.ext hE
        replace hMr := hMr.ext hE
        replace hb0' := ext_cell hE hb0'
        replace hb1' := ext_cell hE hb1'
        replace hc0 := ext_cell hE hc0
        replace hc1 := ext_cell hE hc1
        replace HE := Lib.hid (HE.out.trans hE)
        clear hE
        (repeat (first | (refine seq_skip (by rfl) ?_; intro K hK; simp only [Act.put, List.setIfInBounds_toArray, List.set_cons_zero, List.set_cons_succ]; refine hK _ ?_; clear hK K) | (refine seq_skipc (by rfl) ?_; intro K hK; simp only [Act.put, List.setIfInBounds_toArray, List.set_cons_zero, List.set_cons_succ]; refine hK _ ?_; clear hK K) | (refine seq_read (by rfl) (by rfl) ?_; intro K hK; go_big_quiet_op; first | go_big_quiet_on | (refine ⟨_, fun _ _ => rfl, ?_⟩; go_big_quiet_on))))
        refine seq_value (.agg #[(.int .u64 (S : Int)), (.slice A2 (clearL L 0 d).length c2)]) (by rfl) (fun x hx => by have hq0 := ext_cell hx hc0; have hq1 := ext_cell hx hc1; simp [go_sem, execOp, Act.eval, hq0, hq1]) ?_; intro K hK; simp only [Act.put, List.setIfInBounds_toArray, List.set_cons_zero, List.set_cons_succ]; refine hK _ ?_; clear hK K
        refine seq_value (.agg #[(.int .u64 (S : Int)), (.slice A L.length c)]) (by rfl) (fun x hx => by have hq0 := ext_cell hx hb0'; have hq1 := ext_cell hx hb1'; simp [go_sem, execOp, Act.eval, hq0, hq1]) ?_; intro K hK; simp only [Act.put, List.setIfInBounds_toArray, List.set_cons_zero, List.set_cons_succ]; refine hK _ ?_; clear hK K
        (repeat (first | (refine seq_skip (by rfl) ?_; intro K hK; simp only [Act.put, List.setIfInBounds_toArray, List.set_cons_zero, List.set_cons_succ]; refine hK _ ?_; clear hK K) | (refine seq_skipc (by rfl) ?_; intro K hK; simp only [Act.put, List.setIfInBounds_toArray, List.set_cons_zero, List.set_cons_succ]; refine hK _ ?_; clear hK K) | (refine seq_read (by rfl) (by rfl) ?_; intro K hK; go_big_quiet_op; first | go_big_quiet_on | (refine ⟨_, fun _ _ => rfl, ?_⟩; go_big_quiet_on))))
        refine seq_value (.int .u64 (S : Int)) (by rfl) (fun x hx => by have hq0 := ext_cell hx hb0'; simp [go_sem, execOp, Act.eval, hq0]) ?_
        intro K hK; simp only [Act.put, List.setIfInBounds_toArray, List.set_cons_zero, List.set_cons_succ]; refine hK _ ?_; clear hK K
        (repeat (first | (refine seq_skip (by rfl) ?_; intro K hK; simp only [Act.put, List.setIfInBounds_toArray, List.set_cons_zero, List.set_cons_succ]; refine hK _ ?_; clear hK K) | (refine seq_skipc (by rfl) ?_; intro K hK; simp only [Act.put, List.setIfInBounds_toArray, List.set_cons_zero, List.set_cons_succ]; refine hK _ ?_; clear hK K) | (refine seq_read (by rfl) (by rfl) ?_; intro K hK; go_big_quiet_op; first | go_big_quiet_on | (refine ⟨_, fun _ _ => rfl, ?_⟩; go_big_quiet_on))))
        refine seq_call (rclear_0 hMr (d := d) (by omega)) rfl Try.func23 (by kernel_rfl) (by kernel_rfl) (by rfl) (by rfl) ?_; intro K hK; rintro e w' ⟨A5, c5, rfl, hMd, hE⟩; refine ⟨_, rfl, hE, ?_⟩; simp only [Act.put, List.setIfInBounds_toArray, List.set_cons_zero, List.set_cons_succ]; refine hK _ _ ?_; clear hK K
        replace hMc := hMc.ext hE
        replace HE := Lib.hid (HE.out.trans hE)
        clear hE
        refine seq_call (same_x hMc hMd rfl) rfl Try.func13 (by kernel_rfl) (by kernel_rfl) (by rfl) (by rfl) ?_; intro K hK; rintro e w' ⟨rfl, hE⟩; refine ⟨_, rfl, hE, ?_⟩; simp only [Act.put, List.setIfInBounds_toArray, List.set_cons_zero, List.set_cons_succ]; refine hK _ _ ?_; clear hK K
        replace HE := Lib.hid (HE.out.trans hE)
        (repeat (first | (refine seq_skip (by rfl) ?_; intro K hK; simp only [Act.put, List.setIfInBounds_toArray, List.set_cons_zero, List.set_cons_succ]; refine hK _ ?_; clear hK K) | (refine seq_skipc (by rfl) ?_; intro K hK; simp only [Act.put, List.setIfInBounds_toArray, List.set_cons_zero, List.set_cons_succ]; refine hK _ ?_; clear hK K) | (refine seq_read (by rfl) (by rfl) ?_; intro K hK; go_big_quiet_op; first | go_big_quiet_on | (refine ⟨_, fun _ _ => rfl, ?_⟩; go_big_quiet_on))))
        refine seq_done ?_
        go_wp2
        go_ret
        exact ⟨rfl, HE.out⟩
  · have hde : (((errN size at' S : Nat) : Int) != 0) = true := by simp; omega
    have hde' : (errN size at' S != 0) = true := by simp; omega
    refine (store_no S (some ⟨g, 0, none⟩) L co at' v size a1 he _).mono ?_
    rintro e w4 ⟨rfl, hE0⟩
    have hE4 := ((Ext.refl w3).alloc _).trans hE0
    obtain ⟨hx0, hx1⟩ := box_mem hE0
    replace hM2 := hM2.ext hE4
    replace hX := hX.ext hE4
    replace hown := own_ext hown hE4
    replace hb0' := ext_cell hE4 hb0'
    replace hb1' := ext_cell hE4 hb1'
    replace HE := Lib.hid (HE.out.trans hE4)
    have hs4 := hE0.size
    rw [World.size_alloc] at hs4
    clear hE0 hE4
    have lm := block_lt_of_cell hb0'
    have lx := block_lt_of_cell hx0
    go_wp2_with fail
    refine (clear_0 S (some ⟨g, 0, none⟩) L co d (S / 8) hM.rl (by omega) (by omega) _ (hX.row.ext ((Ext.refl w4).alloc _))).mono ?_
    rintro e w5 ⟨u2, rfl, hownC, hE0⟩
    rw [World.size_alloc] at hownC
    obtain ⟨A2, c2, rfl, hrC⟩ := own_row hownC
    clear hrC
    have hE5 := ((Ext.refl w4).alloc _).trans hE0
    obtain ⟨ha0, ha1⟩ := box_mem hE0
    replace hM2 := hM2.ext hE5
    replace hX := hX.ext hE5
    replace hown := own_ext hown hE5
    replace hb0' := ext_cell hE5 hb0'
    replace hb1' := ext_cell hE5 hb1'
    replace hx0 := ext_cell hE5 hx0
    replace hx1 := ext_cell hE5 hx1
    replace HE := Lib.hid (HE.out.trans hE5)
    have hs5 := hE5.size
    clear hE0 hE5
    replace lm := block_lt_of_cell hb0'
    replace lx := block_lt_of_cell hx0
    go_wp2_with fail
    refine (same_x (hX.ext ((Ext.refl w5).alloc _)) (hM2.ext ((Ext.refl w5).alloc _)) rfl).mono ?_
    rintro e w6 ⟨rfl, hE0⟩
    have hE6 := ((Ext.refl w5).alloc _).trans hE0
    obtain ⟨hc0, hc1⟩ := box_mem hE0
    replace hownC := own_ext hownC hE6
    replace hM2 := hM2.ext hE6
    replace hown := own_ext hown hE6
    replace hb0' := ext_cell hE6 hb0'
    replace hb1' := ext_cell hE6 hb1'
    replace ha0 := ext_cell hE6 ha0
    replace ha1 := ext_cell hE6 ha1
    replace HE := Lib.hid (HE.out.trans hE6)
    have hs6 := hE6.size
    clear hE0 hE6 hx0 hx1 lx lm hX
    go_wp2
    go_loopw [14] (fun i wr => ∃ k : Nat, k ≤ L.length ∧ i = .int .i64 k ∧ (∃ xs, wr.ownsRow w2.heap.size 48 2 (.slice (some ⟨g, 0, none⟩) L.length co) L.length xs) ∧ w6.grownBy wr (some g)) (fun i _ => (L.length - intOf i).toNat)
    case atStart => exact ⟨0, by omega, rfl, ⟨_, hown⟩, World.grownBy.refl w6 _⟩
    case round =>
      obtain ⟨k, hk, rfl, ⟨xs, how⟩, hgk⟩ := hrel
      by_cases hlt : k < L.length
      · have hz : (k : Int) < (L.length : Int) := by omega
        have hxl := how.1
        have e1 := how.cellAt (k * 2) (by omega)
        have e2 := how.cellAt (k * 2 + 1) (by omega)
        rw [List.getElem?_eq_getElem (by omega)] at e1 e2
        have f1 := how.frozenAt (k * 2)
        have f2 := how.frozenAt (k * 2 + 1)
        obtain ⟨hn1, hn2⟩ := gk_set2 how (k * 2) (.int .u64 7) (.int .u64 7)
        have Hn := Lib.hid (And.intro hn1 (gk_trans hgk hn2))
        clear hn1 hn2 how hgk hown
        go_wp2
        go_roundw
        case rel => exact ⟨k + 1, by omega, by go_num, Hn.out.1, Hn.out.2⟩
        case measure => simp [intOf]; omega
      · clear hown
        replace hownC := own_kept hownC (g := g) (by omega) hgk
        have hMr : Mem wr S A L c := ⟨gk_row hgk hM2.row hAne, hM2.rl, hM2.ok, hM2.few⟩
        replace hb0' := gk_cell hgk hb0' (by omega)
        replace hb1' := gk_cell hgk hb1' (by omega)
        replace ha0 := gk_cell hgk ha0 (by omega)
        replace ha1 := gk_cell hgk ha1 (by omega)
        replace hc0 := gk_cell hgk hc0 (by omega)
        replace hc1 := gk_cell hgk hc1 (by omega)
        replace HE : Hid (Ext w wr) := Lib.hid (Below.grown HE.out hgk (by omega) (fun k hk => by injection hk with hk; omega))
        have hs7 := hgk.size
        clear hgk how hM2
        obtain ⟨A2', c2', e4, hrC⟩ := own_row hownC
        injection e4 with e4 e5 e6
        subst e4 e6
        have hMc : Mem wr S A2 (clearL L 0 d) c2 := ⟨hrC, clearL_is hM.rl (by omega), hM.ok, by have := clearL_len L (show 0 ≤ d by omega); omega⟩
        clear hownC e5
        go_wp2_with fail
        refine (rstore_no S A L c at' v size a1 he _).mono ?_
        rintro e w7 ⟨rfl, hE⟩
        replace hMc := hMc.ext hE
        replace hMr := hMr.ext hE
        replace hb0' := ext_cell hE hb0'
        replace hb1' := ext_cell hE hb1'
        replace ha0 := ext_cell hE ha0
        replace ha1 := ext_cell hE ha1
        replace hc0 := ext_cell hE hc0
        replace hc1 := ext_cell hE hc1
        replace HE := Lib.hid (HE.out.trans hE)
        clear hE
        have lm := block_lt_of_cell hb0'
        have la := block_lt_of_cell ha0
        have lc := block_lt_of_cell hc0
        go_wp2_with fail
        have hE := ((Ext.refl w7).alloc (.cells #[.int .u64 (S : Int), (.slice A L.length c)] 25)).drew
        replace hMc := hMc.ext hE
        replace hMr := hMr.ext hE
        replace hb0' := ext_cell hE hb0'
        replace hb1' := ext_cell hE hb1'
        replace ha0 := ext_cell hE ha0
        replace ha1 := ext_cell hE ha1
        replace hc0 := ext_cell hE hc0
        replace hc1 := ext_cell hE hc1
        replace HE := Lib.hid (HE.out.trans hE)
        clear hE
        refine wp_region_seq [(0, false), (1, false), (2, false), (3, false), (4, false), (5, true), (6, false), (7, false), (8, false), (9, false), (10, false), (11, false), (12, false), (13, false), (14, true), (15, true), (16, false), (17, false)] Ext (by kernel_rfl) (by kernel_rfl) Ext.refl (fun _ _ _ => Ext.trans) ?_; simp only [List.map, nth_z, nth_s]
        (repeat (first | (refine seq_skip (by rfl) ?_; intro K hK; simp only [Act.put, List.setIfInBounds_toArray, List.set_cons_zero, List.set_cons_succ]; refine hK _ ?_; clear hK K) | (refine seq_skipc (by rfl) ?_; intro K hK; simp only [Act.put, List.setIfInBounds_toArray, List.set_cons_zero, List.set_cons_succ]; refine hK _ ?_; clear hK K) | (refine seq_read (by rfl) (by rfl) ?_; intro K hK; go_big_quiet_op; first | go_big_quiet_on | (refine ⟨_, fun _ _ => rfl, ?_⟩; go_big_quiet_on))))
        refine seq_value (.agg #[(.int .u64 (S : Int)), (.slice A2 (clearL L 0 d).length c2)]) (by rfl) (fun x hx => by have hq0 := ext_cell hx hc0; have hq1 := ext_cell hx hc1; simp [go_sem, execOp, Act.eval, hq0, hq1]) ?_; intro K hK; simp only [Act.put, List.setIfInBounds_toArray, List.set_cons_zero, List.set_cons_succ]; refine hK _ ?_; clear hK K
        refine seq_value (.agg #[(.int .u64 (S : Int)), (.slice A L.length c)]) (by rfl) (fun x hx => by have hq0 := ext_cell hx hb0'; have hq1 := ext_cell hx hb1'; simp [go_sem, execOp, Act.eval, hq0, hq1]) ?_; intro K hK; simp only [Act.put, List.setIfInBounds_toArray, List.set_cons_zero, List.set_cons_succ]; refine hK _ ?_; clear hK K
        (repeat (first | (refine seq_skip (by rfl) ?_; intro K hK; simp only [Act.put, List.setIfInBounds_toArray, List.set_cons_zero, List.set_cons_succ]; refine hK _ ?_; clear hK K) | (refine seq_skipc (by rfl) ?_; intro K hK; simp only [Act.put, List.setIfInBounds_toArray, List.set_cons_zero, List.set_cons_succ]; refine hK _ ?_; clear hK K) | (refine seq_read (by rfl) (by rfl) ?_; intro K hK; go_big_quiet_op; first | go_big_quiet_on | (refine ⟨_, fun _ _ => rfl, ?_⟩; go_big_quiet_on))))
        refine seq_value (.int .u64 (S : Int)) (by rfl) (fun x hx => by have hq0 := ext_cell hx hb0'; simp [go_sem, execOp, Act.eval, hq0]) ?_
        intro K hK; simp only [Act.put, List.setIfInBounds_toArray, List.set_cons_zero, List.set_cons_succ]; refine hK _ ?_; clear hK K
        (repeat (first | (refine seq_skip (by rfl) ?_; intro K hK; simp only [Act.put, List.setIfInBounds_toArray, List.set_cons_zero, List.set_cons_succ]; refine hK _ ?_; clear hK K) | (refine seq_skipc (by rfl) ?_; intro K hK; simp only [Act.put, List.setIfInBounds_toArray, List.set_cons_zero, List.set_cons_succ]; refine hK _ ?_; clear hK K) | (refine seq_read (by rfl) (by rfl) ?_; intro K hK; go_big_quiet_op; first | go_big_quiet_on | (refine ⟨_, fun _ _ => rfl, ?_⟩; go_big_quiet_on))))
        refine seq_call (rclear_0 hMr (d := d) (by omega)) rfl Try.func23 (by kernel_rfl) (by kernel_rfl) (by rfl) (by rfl) ?_; intro K hK; rintro e w' ⟨A5, c5, rfl, hMd, hE⟩; refine ⟨_, rfl, hE, ?_⟩; simp only [Act.put, List.setIfInBounds_toArray, List.set_cons_zero, List.set_cons_succ]; refine hK _ _ ?_; clear hK K
        replace hMc := hMc.ext hE
        replace HE := Lib.hid (HE.out.trans hE)
        clear hE
        refine seq_call (same_x hMc hMd rfl) rfl Try.func13 (by kernel_rfl) (by kernel_rfl) (by rfl) (by rfl) ?_; intro K hK; rintro e w' ⟨rfl, hE⟩; refine ⟨_, rfl, hE, ?_⟩; simp only [Act.put, List.setIfInBounds_toArray, List.set_cons_zero, List.set_cons_succ]; refine hK _ _ ?_; clear hK K
        replace HE := Lib.hid (HE.out.trans hE)
        (repeat (first | (refine seq_skip (by rfl) ?_; intro K hK; simp only [Act.put, List.setIfInBounds_toArray, List.set_cons_zero, List.set_cons_succ]; refine hK _ ?_; clear hK K) | (refine seq_skipc (by rfl) ?_; intro K hK; simp only [Act.put, List.setIfInBounds_toArray, List.set_cons_zero, List.set_cons_succ]; refine hK _ ?_; clear hK K) | (refine seq_read (by rfl) (by rfl) ?_; intro K hK; go_big_quiet_op; first | go_big_quiet_on | (refine ⟨_, fun _ _ => rfl, ?_⟩; go_big_quiet_on))))
        refine seq_done ?_
        go_wp2
        go_ret
        exact ⟨rfl, HE.out⟩
end Go.Proofs.Ytcodgmahegofjaa
