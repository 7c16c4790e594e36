/- AsidAll. -/
import Derived.Test.YtngioemeplllhaaDoorLaw18b
import Derived.Test.YtngioemeplllhaaDoorOwn
import Derived.Test.YtngioemeplllhaaDoorWide
namespace Go.Proofs.YtngioemeplllhaaDoor
open Go.ChangeShapes Go.WideShapes Go.ChangeAt Go.RowKit
set_option linter.unusedVariables false
set_option linter.unusedSimpArgs false
set_option maxRecDepth 10000

/-- the numbers that are taken, as values -/
def anV (F k : Nat) : List Value := (List.range k).map fun j => .int .u64 ((tkL F j + 1 : Nat) : Int)
theorem anV_get {F k j : Nat} (h : j < k) : (anV F k)[j]? = some (.int .u64 ((tkL F j + 1 : Nat) : Int)) := by unfold anV; simp [h]
theorem anV_snoc (F k : Nat) : anV F k ++ [.int .u64 ((tkL F k + 1 : Nat) : Int)] = anV F (k + 1) := by
  unfold anV; rw [List.range_succ, List.map_append]; rfl
attribute [irreducible] anV
/-- they lie there -/
def RowA (w : World) (A : Option Addr) (b0 n F : Nat) : Prop := ∀ j, j < n → ∃ g, A = some ⟨g, 0, none⟩ ∧ b0 ≤ g ∧ g < w.heap.size ∧ w.cell? ⟨g, j, none⟩ = some (.int .u64 ((tkL F j + 1 : Nat) : Int))
theorem RowA.ext {w w' : World} {A : Option Addr} {b0 n F : Nat} (h : RowA w A b0 n F) (hE : Ext w w') : RowA w' A b0 n F := fun j hj => by
  obtain ⟨g, e, h1, h2, h3⟩ := h j hj
  exact ⟨g, e, h1, Nat.lt_of_lt_of_le h2 hE.size, ext_cell hE h3⟩
theorem RowA.low {w : World} {A : Option Addr} {b0 n F : Nat} (h : RowA w A b0 n F) {k : Nat} (hk : k < b0) (ds : Array Value) : RowA (w.setRow k ds) A b0 n F := fun j hj => by
  obtain ⟨g, e, h1, h2, h3⟩ := h j hj
  refine ⟨g, e, h1, by rw [size_setRow]; exact h2, ?_⟩
  rw [← h3]
  exact World.cell?_of_block (setRow_other w k g ds (by omega))
theorem RowA.own {w : World} {b0 n F : Nat} {g : Nat} (h : RowA w (some ⟨g, 0, none⟩) b0 n F) {k : Nat} (hk : k ≠ g) (ds : Array Value) : RowA (w.setRow k ds) (some ⟨g, 0, none⟩) b0 n F := fun j hj => by
  obtain ⟨g', e, h1, h2, h3⟩ := h j hj
  injection e with e
  injection e with e
  subst e
  refine ⟨_, rfl, h1, by rw [size_setRow]; exact h2, ?_⟩
  rw [← h3]
  exact World.cell?_of_block (setRow_other w k _ ds (fun q => hk q.symm))
theorem own_row18 {w : World} {b n F : Nat} {v : Value} (h : w.ownsRow b 22 1 v n (anV F n)) : ∃ A c, v = .slice A n c ∧ RowA w A b n F := by
  rcases Joins.ownsRow_forms h with ⟨rfl, rfl⟩ | ⟨g, cap, rfl⟩
  · exact ⟨none, 0, rfl, fun j hj => by omega⟩
  · exact ⟨_, cap, rfl, fun j hj => ⟨g, rfl, (h.lt g rfl).1, (h.lt g rfl).2, (h.cellAt j (by omega)).trans (anV_get hj)⟩⟩
theorem bit_shr (O L : Nat) : (((O : Int) / 2 ^ L).tmod 2 == 1) = O.testBit L := by
  have h : O.testBit L = decide (O / 2 ^ L % 2 = 1) := by rw [Nat.testBit_eq_decide_div_mod_eq]
  have e : (O : Int) / 2 ^ L = ((O / 2 ^ L : Nat) : Int) := by rw [Int.natCast_ediv, Int.natCast_pow]; rfl
  rw [h, e, Bool.eq_iff_iff, beq_iff_eq, decide_eq_true_iff]
  have e2 : ((O / 2 ^ L : Nat) : Int).tmod 2 = ((O / 2 ^ L % 2 : Nat) : Int) := (Int.ofNat_tmod _ _).symm
  rw [e2]
  omega
theorem anV_next {F k L : Nat} (h : tkL F k = L) : anV F (k + 1) = anV F k ++ [.int .u64 ((L : Int) + 1)] := by
  rw [← anV_snoc, h]; rfl
attribute [local irreducible] World.setRow World.alloc Blk
set_option maxRecDepth 100000 in
set_option maxHeartbeats 8000000 in
theorem AsidAll_w {T : World → Prop} (C : AsidC T) (p : As) (hok : p.ok) (w : World) (hT : T w) :
    Calls Tryd.prog 5 #[.agg (anC p)] w fun e w' => e = .returned (.bool true) ∧ Ext w w' := by
  have hTE : ∀ W : World, Ext w W → T W := fun W e => C.ext _ _ hT e
  have h1 := Blk.new w 24 (anC p)
  have HE := Lib.hid ((Ext.refl w).alloc (.cells (anC p) 24))
  have caw := fun W t => awake18_c C W t
  have crr := fun W => rright18_c p hok W
  clear hT
  cases hR : anR p
  · rw [hR] at crr
    clear hR
    go_enter Tryd.func5, Tryd.ntmps5
    go_wp2_with fail
    generalize w.alloc (.cells (anC p) 24) = W0 at *
    go_wp2_with (fail); refine (caw _ (hTE _ HE.out)).mono ?_; rintro e w' ⟨rfl, hE⟩; (try replace h1 := h1.ext hE); (try replace h2 := h2.ext hE); (try replace h4 := h4.ext hE); (try replace hN := hN.ext hE); (try replace HE := Lib.hid (HE.out.trans hE)); (try replace r0 := r0.ext hE); (try replace r1 := r1.ext hE); (try replace r2 := r2.ext hE); (try replace r3 := r3.ext hE); (try replace r4 := r4.ext hE); (try replace r5 := r5.ext hE); (try replace r6 := r6.ext hE); clear hE
    go_wp2_with ((refine wpList_load_blk (by rfl) 24 _ rfl rfl h1 Tryd.underlying24 rfl (by kernel_rfl) ?_)); refine (crr _).mono ?_; rintro e w' ⟨rfl, hE⟩; (try replace h1 := h1.ext hE); (try replace h2 := h2.ext hE); (try replace h4 := h4.ext hE); (try replace hN := hN.ext hE); (try replace HE := Lib.hid (HE.out.trans hE)); (try replace r0 := r0.ext hE); (try replace r1 := r1.ext hE); (try replace r2 := r2.ext hE); (try replace r3 := r3.ext hE); (try replace r4 := r4.ext hE); (try replace r5 := r5.ext hE); (try replace r6 := r6.ext hE); clear hE
    clear h1
    go_wp2_with (fail); refine (caw _ (hTE _ HE.out)).mono ?_; rintro e w' ⟨rfl, hE⟩; (try replace h1 := h1.ext hE); (try replace h2 := h2.ext hE); (try replace h4 := h4.ext hE); (try replace hN := hN.ext hE); (try replace HE := Lib.hid (HE.out.trans hE)); (try replace r0 := r0.ext hE); (try replace r1 := r1.ext hE); (try replace r2 := r2.ext hE); (try replace r3 := r3.ext hE); (try replace r4 := r4.ext hE); (try replace r5 := r5.ext hE); (try replace r6 := r6.ext hE); clear hE
    go_wp2
    go_ret
    exact ⟨rfl, HE.out⟩
  rw [hR] at crr
  obtain ⟨m, hP⟩ := an_right hR
  obtain ⟨N, hN⟩ : ∃ N, popN p.fr 64 = N := ⟨_, rfl⟩
  have hN16 : N ≤ 16 := by have := an_pop hP; have := hP.m1; omega
  have HN := Lib.hid hN
  have cfp := fun W t => C.free p m W hP t
  rw [hN] at cfp
  clear hR hN
  go_enter Tryd.func5, Tryd.ntmps5
  go_wp2_with fail
  have hgA : w.heap.size < (w.alloc (.cells (anC p) 24)).heap.size := h1.lt
  generalize w.alloc (.cells (anC p) 24) = W0 at *
  go_wp2_with (fail); refine (caw _ (hTE _ HE.out)).mono ?_; rintro e w' ⟨rfl, hE⟩; (try replace h1 := h1.ext hE); (try replace h2 := h2.ext hE); (try replace h4 := h4.ext hE); (try replace hN := hN.ext hE); (try replace HE := Lib.hid (HE.out.trans hE)); (try replace r0 := r0.ext hE); (try replace r1 := r1.ext hE); (try replace r2 := r2.ext hE); (try replace r3 := r3.ext hE); (try replace r4 := r4.ext hE); (try replace r5 := r5.ext hE); (try replace r6 := r6.ext hE); clear hE
  clear caw
  go_wp2_with ((refine wpList_load_blk (by rfl) 24 _ rfl rfl h1 Tryd.underlying24 rfl (by kernel_rfl) ?_)); refine (crr _).mono ?_; rintro e w' ⟨rfl, hE⟩; (try replace h1 := h1.ext hE); (try replace h2 := h2.ext hE); (try replace h4 := h4.ext hE); (try replace hN := hN.ext hE); (try replace HE := Lib.hid (HE.out.trans hE)); (try replace r0 := r0.ext hE); (try replace r1 := r1.ext hE); (try replace r2 := r2.ext hE); (try replace r3 := r3.ext hE); (try replace r4 := r4.ext hE); (try replace r5 := r5.ext hE); (try replace r6 := r6.ext hE); clear hE
  clear crr
  have hB := h1.lt
  have h1o := h1
  have zz1 : Blk (w'.alloc (.cells #[.int .i64 0, .int .u64 0, .int .u64 0] 24)) w'.heap.size 24 #[.int .i64 0, .int .u64 0, .int .u64 0] := Blk.new _ _ _; have hE := ((Ext.refl w').alloc (.cells #[.int .i64 0, .int .u64 0, .int .u64 0] 24)).row (Nat.le_refl w'.heap.size) (anC p); (try replace h1 := h1.ext hE); (try replace h2 := h2.ext hE); (try replace h4 := h4.ext hE); (try replace hN := hN.ext hE); (try replace HE := Lib.hid (HE.out.trans hE)); (try replace r0 := r0.ext hE); (try replace r1 := r1.ext hE); (try replace r2 := r2.ext hE); (try replace r3 := r3.ext hE); (try replace r4 := r4.ext hE); (try replace r5 := r5.ext hE); (try replace r6 := r6.ext hE); clear hE; have h2 := zz1.row (anC p)
  go_wp2_with (first | (refine wpList_load_blk (by rfl) 24 _ rfl rfl h1o Tryd.underlying24 rfl (by kernel_rfl) ?_) | ((refine wpList_store_blk rfl 24 _ _ rfl rfl rfl zz1 (an_info _) (by simp [anC_size]) (anC_one _) ?_); clear zz1; generalize (w'.alloc (.cells #[.int .i64 0, .int .u64 0, .int .u64 0] 24)).setRow w'.heap.size (anC p) = X at *))
  clear h1o
  have hg0 := h2.lt
  generalize w'.heap.size = gB at *
  obtain ⟨g0, hG0⟩ : ∃ g0, X.heap.size = g0 := ⟨_, rfl⟩
  rw [hG0] at hg0
  have HG0 := Lib.hid (Nat.le_of_eq hG0.symm)
  clear hG0
  have h2' : Blk X gB 24 (anC (tkA p 0)) := by rw [tkA_0]; exact h2
  clear h2 hgA
  go_loopw [4, 5] (fun l i wr => ∃ k : Nat, k ≤ N ∧ i = .int .i64 k ∧ wr.ownsRow g0 22 1 l k (anV p.fr k) ∧ Blk wr w.heap.size 24 (anC p) ∧ Blk wr gB 24 (anC (tkA p k)) ∧ Ext w wr ∧ g0 ≤ wr.heap.size) (fun _ i _ => (16 - intOf i).toNat)
  case atStart => exact ⟨0, by omega, rfl, by unfold anV; exact World.ownsRow_nil _ _ _ _, h1, h2', HE.out, HG0.out⟩
  case round =>
    clear h1 h2' HE HG0
    obtain ⟨k, hk, rfl, hown, h1, h2, hE, hWr⟩ := hrel
    have HE := Lib.hid hE
    clear hE
    by_cases hlt : k < N
    · have hkp : k < popN p.fr 64 := by rw [HN.out]; exact hlt
      have hkok := tkA_ok hP k (Nat.le_of_lt hkp)
      obtain ⟨-, e1, e2, e3, e4⟩ := tkA_next hP hkp
      have cf := fun W t => C.free (tkA p k) m W hkok t
      have ct := fun W t => C.take (tkA p k) m W hkok t
      rw [tkA_pop hP (Nat.le_of_lt hkp), HN.out] at cf
      rw [e1, e2, e3, e4] at ct
      have hr0 : 0 < N - k := by omega
      have hLm : tkL p.fr k < m := by have := hkok.top (tkA_next hP hkp).1; rwa [tkA_low] at this
      have hL16 : tkL p.fr k < 16 := by have := hP.m1; omega
      have hrise : 0 < k → tkL p.fr (k - 1) < tkL p.fr k := fun h => by
        have := tkL_rise hP.f64 (show k - 1 + 1 < popN p.fr 64 by omega)
        rwa [show k - 1 + 1 = k by omega] at this
      have hk16 : k < 16 := by omega
      have dk : decide ((k : Int) < 16) = true := by simp; omega
      generalize N - k = r at *
      have dr : decide (0 < r) = true := by simpa using hr0
      obtain ⟨L, hL⟩ : ∃ L, tkL p.fr k = L := ⟨_, rfl⟩
      obtain ⟨q, hq⟩ : ∃ q, tkA p (k + 1) = q := ⟨_, rfl⟩
      rw [hL] at ct hL16 hrise
      rw [hq] at ct
      clear hkok e1 e2 e3 e4 hr0 hLm
      obtain ⟨A, c, rfl, hrow⟩ := own_row18 hown
      go_wp2_with (refine wpList_load_blk (by rfl) 24 _ rfl rfl h2 Tryd.underlying24 rfl (by kernel_rfl) ?_)
      refine (cf _ (hTE _ HE.out)).mono ?_
      rintro e w1 ⟨rfl, hE⟩
      (try replace h1 := h1.ext hE); (try replace h2 := h2.ext hE); (try replace h4 := h4.ext hE); (try replace hN := hN.ext hE); (try replace HE := Lib.hid (HE.out.trans hE)); (try replace r0 := r0.ext hE); (try replace r1 := r1.ext hE); (try replace r2 := r2.ext hE); (try replace r3 := r3.ext hE); (try replace r4 := r4.ext hE); (try replace r5 := r5.ext hE); (try replace r6 := r6.ext hE)
      replace hrow := hrow.ext hE
      replace hown := own_ext hown hE
      replace hWr := Nat.le_trans hWr hE.size
      clear hE cf
      go_wp2_with (refine wpList_load_blk (by rfl) 24 _ rfl rfl h2 Tryd.underlying24 rfl (by kernel_rfl) ?_)
      refine (ct _ (hTE _ HE.out)).mono ?_
      rintro e w2 ⟨rfl, hE⟩
      (try replace h1 := h1.ext hE); (try replace h2 := h2.ext hE); (try replace h4 := h4.ext hE); (try replace hN := hN.ext hE); (try replace HE := Lib.hid (HE.out.trans hE)); (try replace r0 := r0.ext hE); (try replace r1 := r1.ext hE); (try replace r2 := r2.ext hE); (try replace r3 := r3.ext hE); (try replace r4 := r4.ext hE); (try replace r5 := r5.ext hE); (try replace r6 := r6.ext hE)
      replace hrow := hrow.ext hE
      replace hown := own_ext hown hE
      replace hWr := Nat.le_trans hWr hE.size
      clear hE ct
      have hC := h2.lt
      have hNo := own_below hown (.inr (Nat.le_refl w2.heap.size))
      have hEx := ((Ext.refl w2).alloc (.cells #[.int .i64 0, .int .u64 0, .int .u64 0] 24)).row (Nat.le_refl w2.heap.size) (anC q)
      have zz1 : Blk (w2.alloc (.cells #[.int .i64 0, .int .u64 0, .int .u64 0] 24)) w2.heap.size 24 #[.int .i64 0, .int .u64 0, .int .u64 0] := Blk.new _ _ _; have hE := ((Ext.refl w2).alloc (.cells #[.int .i64 0, .int .u64 0, .int .u64 0] 24)).row (Nat.le_refl w2.heap.size) (anC q); (try replace h1 := h1.ext hE); (try replace h2 := h2.ext hE); (try replace h4 := h4.ext hE); (try replace hN := hN.ext hE); (try replace HE := Lib.hid (HE.out.trans hE)); (try replace r0 := r0.ext hE); (try replace r1 := r1.ext hE); (try replace r2 := r2.ext hE); (try replace r3 := r3.ext hE); (try replace r4 := r4.ext hE); (try replace r5 := r5.ext hE); (try replace r6 := r6.ext hE); clear hE; have h4 := zz1.row (anC q)
      replace hrow := hrow.ext hEx
      replace hown := own_ext hown hEx
      replace hWr := Nat.le_trans hWr hEx.size
      clear hEx
      have x2 := h1.an.2.2
      have dx1 : decide ((L : Int) + 1 < 1) = false := by simp; omega
      have dx2 : decide (16 < (L : Int) + 1) = false := by simp; omega
      have HL := Lib.hid hL
      have Hq := Lib.hid hq
      clear hL hq
      have hbs := bit_shr p.ow L
      have hBB : (p.ow.testBit L != p.ow.testBit L) = false := by simp
      have hB2 : ((!p.ow.testBit L) == p.ow.testBit L) = false := by cases p.ow.testBit L <;> rfl
      generalize p.ow.testBit L = OB at *
      have hwl : w.heap.size < g0 := by omega
      rcases Nat.eq_zero_or_pos k with rfl | hk0
      · skip
        go_wp2_with (first | ((refine wpList_store_blk rfl 24 _ _ rfl rfl rfl zz1 (an_info _) (by simp [anC_size]) (anC_one _) ?_); clear zz1; generalize (w2.alloc (.cells #[.int .i64 0, .int .u64 0, .int .u64 0] 24)).setRow w2.heap.size (anC q) = X at *) | (at_builtin; refine wpList_append_run' _ rfl _ _ _ rfl _ _ rfl rfl _ (run_append_u64 _ g0 _ _ _ (by assumption) _ (by omega) (by omega) _) ?_; rintro v6 w6 ⟨hown6, hB6, hK6⟩; have h4b := h4.kept hK6 hNo; have h2b := h2.below hB6 hg0; have H1 := Lib.hid (h1.below hB6 hwl); have H2 := Lib.hid h2b; have HE6 := Lib.hid (show Ext w w6 from Below.trans HE.out (Below.mono hB6 (Nat.le_of_lt hwl))); have HO6 := Lib.hid hown6; have HS6 := Lib.hid hB6.size; clear hown6 hB6 hK6 hown h1 h2 h4 HE) | (refine wpList_load_blk (by rfl) 24 _ rfl rfl h4b Tryd.underlying24 rfl (by kernel_rfl) ?_) | (refine wpList_store_blk rfl 24 _ _ rfl rfl rfl h2b (an_info _) (by simp [anC_size]) (anC_one _) ?_))
        exact ⟨⟨0 + 1, hlt, by go_num, by rw [anV_next HL.out]; exact own_low HO6.out hg0 _, H1.out.apart (by omega) _, by rw [Hq.out]; exact H2.out.row _, HE6.out.row (by omega) _, by rw [size_setRow]; exact Nat.le_trans hWr HS6.out⟩, by simp [intOf]⟩
      · obtain ⟨j, rfl⟩ : ∃ j, k = j + 1 := ⟨k - 1, by omega⟩
        obtain ⟨g, rfl, hg1, hg2, hcl⟩ := hrow j (by omega)
        have hr2 := hrise (by omega)
        rw [Nat.add_sub_cancel] at hr2
        have dl : decide ((L : Int) + 1 ≤ ((tkL p.fr j + 1 : Nat) : Int)) = false := by simp; omega
        clear hrise hrow
        generalize tkL p.fr j + 1 = Lj at *
        go_wp2_with (first | ((refine wpList_store_blk rfl 24 _ _ rfl rfl rfl zz1 (an_info _) (by simp [anC_size]) (anC_one _) ?_); clear zz1; generalize (w2.alloc (.cells #[.int .i64 0, .int .u64 0, .int .u64 0] 24)).setRow w2.heap.size (anC q) = X at *) | (at_builtin; refine wpList_append_run' _ rfl _ _ _ rfl _ _ rfl rfl _ (run_append_u64 _ g0 _ _ _ (by assumption) _ (by omega) (by omega) _) ?_; rintro v6 w6 ⟨hown6, hB6, hK6⟩; have h4b := h4.kept hK6 hNo; have h2b := h2.below hB6 hg0; have H1 := Lib.hid (h1.below hB6 hwl); have H2 := Lib.hid h2b; have HE6 := Lib.hid (show Ext w w6 from Below.trans HE.out (Below.mono hB6 (Nat.le_of_lt hwl))); have HO6 := Lib.hid hown6; have HS6 := Lib.hid hB6.size; clear hown6 hB6 hK6 hown h1 h2 h4 HE) | (refine wpList_load_blk (by rfl) 24 _ rfl rfl h4b Tryd.underlying24 rfl (by kernel_rfl) ?_) | (refine wpList_store_blk rfl 24 _ _ rfl rfl rfl h2b (an_info _) (by simp [anC_size]) (anC_one _) ?_))
        exact ⟨⟨j + 1 + 1, hlt, by go_num, by rw [anV_next HL.out]; exact own_low HO6.out hg0 _, H1.out.apart (by omega) _, by rw [Hq.out]; exact H2.out.row _, HE6.out.row (by omega) _, by rw [size_setRow]; exact Nat.le_trans hWr HS6.out⟩, by simp [intOf]; omega⟩
    · obtain rfl : k = N := by omega
      have hkk : k ≤ popN p.fr 64 := by rw [HN.out]; exact Nat.le_refl _
      have hkok := tkA_ok hP k hkk
      have cf := fun W t => C.free (tkA p k) m W hkok t
      rw [tkA_pop hP hkk, HN.out, Nat.sub_self] at cf
      obtain ⟨A, c, rfl, hrow⟩ := own_row18 hown
      have hkn : ((k : Int) != (k : Int)) = false := by simp
      have h2z : Blk wr gB 24 (anC (gvA p 0)) := by rw [← tkA_end hP, HN.out]; exact h2
      clear hown hkok hkk hk hlt
      by_cases hk16 : k < 16
      · have dk : decide ((k : Int) < 16) = true := by simp; omega
        go_wp2_with (refine wpList_load_blk (by rfl) 24 _ rfl rfl h2 Tryd.underlying24 rfl (by kernel_rfl) ?_)
        clear h2
        have h2 := h2z
        clear h2z
        refine (cf _ (hTE _ HE.out)).mono ?_
        rintro e w1 ⟨rfl, hE⟩
        (try replace h1 := h1.ext hE); (try replace h2 := h2.ext hE); (try replace h4 := h4.ext hE); (try replace hN := hN.ext hE); (try replace HE := Lib.hid (HE.out.trans hE)); (try replace r0 := r0.ext hE); (try replace r1 := r1.ext hE); (try replace r2 := r2.ext hE); (try replace r3 := r3.ext hE); (try replace r4 := r4.ext hE); (try replace r5 := r5.ext hE); (try replace r6 := r6.ext hE)
        replace hrow := hrow.ext hE
        clear hE cf dk hk16
        go_wp2_with (refine wpList_load_blk (by rfl) 24 _ rfl rfl h1 Tryd.underlying24 rfl (by kernel_rfl) ?_)
        refine (cfp _ (hTE _ HE.out)).mono ?_
        rintro e w9 ⟨rfl, hE⟩
        (try replace h1 := h1.ext hE); (try replace h2 := h2.ext hE); (try replace h4 := h4.ext hE); (try replace hN := hN.ext hE); (try replace HE := Lib.hid (HE.out.trans hE)); (try replace r0 := r0.ext hE); (try replace r1 := r1.ext hE); (try replace r2 := r2.ext hE); (try replace r3 := r3.ext hE); (try replace r4 := r4.ext hE); (try replace r5 := r5.ext hE); (try replace r6 := r6.ext hE)
        replace hrow := hrow.ext hE
        clear hE cfp
        go_wp2_with fail
        go_loopw [10] (fun i wr => ∃ j : Nat, j ≤ k ∧ i = .int .i64 j ∧ Blk wr w.heap.size 24 (anC p) ∧ Blk wr gB 24 (anC (gvA p j)) ∧ RowA wr A g0 k p.fr ∧ Ext w wr) (fun i _ => (k - intOf i).toNat)
        case atStart => exact ⟨0, by omega, rfl, h1, h2, hrow, HE.out⟩
        case round =>
          clear h1 h2 hrow HE
          obtain ⟨j, hj, rfl, h1, h2, hrow, hE⟩ := hrel
          have HE := Lib.hid hE
          clear hE
          by_cases hjk : j < k
          · have hjp : j < popN p.fr 64 := by rw [HN.out]; exact hjk
            obtain ⟨hgok, hgn⟩ := gvA_ok hP j (Nat.le_of_lt hjp)
            obtain ⟨b1, b2⟩ := hgn hjp
            have hLm : tkL p.fr j < m := by have := (tkA_ok hP j (Nat.le_of_lt hjp)).top (tkA_next hP hjp).1; rwa [tkA_low] at this
            have cg := fun W t => C.give (gvA p j) m (tkL p.fr j + 1) W hgok (by have := hP.m1; omega) t
            rw [(an_G1 b1).2, b2] at cg
            obtain ⟨g, rfl, hg1, hg2, hcl⟩ := hrow j hjk
            clear b1 b2 hLm hgok hgn hjp
            generalize tkL p.fr j + 1 = x at *
            obtain ⟨q, hq⟩ : ∃ q, gvA p (j + 1) = q := ⟨_, rfl⟩
            rw [hq] at cg
            have Hq := Lib.hid hq
            clear hq
            go_wp2_with fail
            have hql := h2.lt
            replace hcl := (show wr.drew.cell? ⟨g, j, none⟩ = _ from hcl)
            replace hrow := hrow.ext (Ext.refl wr).drew
            (try replace h1 := Blk.drew h1); (try replace h2 := Blk.drew h2); (try replace h4 := Blk.drew h4); replace HE := Lib.hid HE.out.drew
            have hwd : wr.drew.heap.size = wr.heap.size := rfl
            refine wp_region_fork [(0, false), (1, false), (2, false), (3, false), (4, false)] 5 [(6, false), (7, false), (8, false), (9, true), (10, true), (11, false)] 9 [(5, true), (6, false), (7, false), (8, false), (10, true), (11, false)] (Below (wr.heap.size)) (by kernel_rfl) (by kernel_rfl) (Below.refl _) (fun _ _ _ => Below.trans) ?_; simp only [List.map, nth_z, nth_s]
            generalize wr.drew = wd at *
            refine seq_load rfl rfl (fun x hx => Blk.below h2 hx hql) rfl Tryd.underlying24 (by kernel_rfl) (by rfl) ?_
            intro K hK; simp only [Act.put, List.setIfInBounds_toArray, List.set_cons_zero, List.set_cons_succ]; refine hK _ ?_; clear hK K
            (repeat (first | (refine seq_skip (by rfl) ?_; intro K hK; simp only [Act.put, List.setIfInBounds_toArray, List.set_cons_zero, List.set_cons_succ]; refine hK _ ?_; clear hK K) | (refine seq_skipc (by rfl) ?_; intro K hK; simp only [Act.put, List.setIfInBounds_toArray, List.set_cons_zero, List.set_cons_succ]; refine hK _ ?_; clear hK K) | (refine seq_read (by rfl) (by rfl) ?_; intro K hK; go_big_quiet_op; first | go_big_quiet_on | (refine ⟨_, fun _ _ => rfl, ?_⟩; go_big_quiet_on))))
            refine seq_value (.int .u64 (x : Int)) (by rfl) (fun x hx => by have hq := (Below.cell hx (p := ⟨g, j, none⟩) hg2).trans hcl; simp [go_sem, execOp, Act.eval, hq]) ?_; intro K hK; simp only [Act.put, List.setIfInBounds_toArray, List.set_cons_zero, List.set_cons_succ]; refine hK _ ?_; clear hK K
            refine seq_done ?_
            refine ⟨?_, ?_⟩
            · refine seq_call (cg _ (hTE _ HE.out)) rfl Tryd.func13 (by kernel_rfl) (by kernel_rfl) (by rfl) (by rfl) ?_; intro K hK; rintro e w' ⟨rfl, hE⟩; refine ⟨_, rfl, (Below.mono hE (by omega)), ?_⟩; simp only [Act.put, List.setIfInBounds_toArray, List.set_cons_zero, List.set_cons_succ]; refine hK _ _ ?_; clear hK K
              have hsz := hE.size
              (try replace h1 := h1.ext hE); (try replace h2 := h2.ext hE); (try replace h4 := h4.ext hE); (try replace hN := hN.ext hE); (try replace HE := Lib.hid (HE.out.trans hE)); (try replace r0 := r0.ext hE); (try replace r1 := r1.ext hE); (try replace r2 := r2.ext hE); (try replace r3 := r3.ext hE); (try replace r4 := r4.ext hE); (try replace r5 := r5.ext hE); (try replace r6 := r6.ext hE)
              replace hrow := hrow.ext hE
              clear hE cg
              (repeat (first | (refine seq_skip (by rfl) ?_; intro K hK; simp only [Act.put, List.setIfInBounds_toArray, List.set_cons_zero, List.set_cons_succ]; refine hK _ ?_; clear hK K) | (refine seq_skipc (by rfl) ?_; intro K hK; simp only [Act.put, List.setIfInBounds_toArray, List.set_cons_zero, List.set_cons_succ]; refine hK _ ?_; clear hK K) | (refine seq_read (by rfl) (by rfl) ?_; intro K hK; go_big_quiet_op; first | go_big_quiet_on | (refine ⟨_, fun _ _ => rfl, ?_⟩; go_big_quiet_on))))
              refine seq_run (.pointer (some ⟨w'.heap.size, 0, none⟩)) (w'.alloc (.cells #[.int .i64 0, .int .u64 0, .int .u64 0] 24)) (by rfl) ?_ (Below.alloc (Below.refl _ _) (by omega) _) ?_; (simp [go_sem, execOp, Act.eval]); intro K hK; simp only [Act.put, List.setIfInBounds_toArray, List.set_cons_zero, List.set_cons_succ]; refine hK _ _ ?_; clear hK K
              refine seq_store_row rfl rfl rfl ((Blk.new w' 24 #[.int .i64 0, .int .u64 0, .int .u64 0])) (an_info _) (by simp [anC_size]) (anC_one _) (by rfl) ((below_row (Below.refl _ _) (by omega) _)) ?_; intro K hK; simp only [Act.put, List.setIfInBounds_toArray, List.set_cons_zero, List.set_cons_succ]; refine hK _ _ ?_; clear hK K
              (repeat (first | (refine seq_skip (by rfl) ?_; intro K hK; simp only [Act.put, List.setIfInBounds_toArray, List.set_cons_zero, List.set_cons_succ]; refine hK _ ?_; clear hK K) | (refine seq_skipc (by rfl) ?_; intro K hK; simp only [Act.put, List.setIfInBounds_toArray, List.set_cons_zero, List.set_cons_succ]; refine hK _ ?_; clear hK K) | (refine seq_read (by rfl) (by rfl) ?_; intro K hK; go_big_quiet_op; first | go_big_quiet_on | (refine ⟨_, fun _ _ => rfl, ?_⟩; go_big_quiet_on))))
              refine seq_done ?_
              have hEx := ((Ext.refl w').alloc (.cells #[.int .i64 0, .int .u64 0, .int .u64 0] 24)).row (Nat.le_refl w'.heap.size) (anC q)
              have h4 := (Blk.new w' 24 #[.int .i64 0, .int .u64 0, .int .u64 0]).row (anC q)
              replace h1 := h1.ext hEx
              replace h2 := h2.ext hEx
              replace hrow := hrow.ext hEx
              replace HE := Lib.hid (HE.out.trans hEx)
              clear hEx
              generalize (w'.alloc (.cells #[.int .i64 0, .int .u64 0, .int .u64 0] 24)).setRow w'.heap.size (anC q) = Y at *
              go_wp2_with (first | (refine wpList_load_blk (by rfl) 24 _ rfl rfl h4 Tryd.underlying24 rfl (by kernel_rfl) ?_) | (refine wpList_store_blk rfl 24 _ _ rfl rfl rfl h2 (an_info _) (by simp [anC_size]) (anC_one _) ?_))
              exact ⟨⟨j + 1, hjk, by go_num, h1.apart (by omega) _, by rw [Hq.out]; exact h2.row _, hrow.low hg0 _, HE.out.row (by omega) _⟩, by simp [intOf]; omega⟩
            · refine seq_run (.pointer (some ⟨wd.heap.size, 0, none⟩)) (wd.alloc (.cells #[.int .i64 0, .int .u64 0, .int .u64 0] 24)) (by rfl) ?_ (Below.alloc (Below.refl _ _) (by omega) _) ?_; (simp [go_sem, execOp, Act.eval]); intro K hK; simp only [Act.put, List.setIfInBounds_toArray, List.set_cons_zero, List.set_cons_succ]; refine hK _ _ ?_; clear hK K
              have hE := (Ext.refl wd).alloc (.cells #[.int .i64 0, .int .u64 0, .int .u64 0] 24)
              have h4 := Blk.new wd 24 #[.int .i64 0, .int .u64 0, .int .u64 0]
              replace h1 := h1.ext hE
              replace h2 := h2.ext hE
              replace hrow := hrow.ext hE
              replace HE := Lib.hid (HE.out.trans hE)
              clear hE
              have hsz := h4.lt
              generalize wd.alloc (.cells #[.int .i64 0, .int .u64 0, .int .u64 0] 24) = wa at *
              refine seq_call (cg _ (hTE _ HE.out)) rfl Tryd.func13 (by kernel_rfl) (by kernel_rfl) (by rfl) (by rfl) ?_; intro K hK; rintro e w' ⟨rfl, hE⟩; refine ⟨_, rfl, (Below.mono hE (by omega)), ?_⟩; simp only [Act.put, List.setIfInBounds_toArray, List.set_cons_zero, List.set_cons_succ]; refine hK _ _ ?_; clear hK K
              (try replace h1 := h1.ext hE); (try replace h2 := h2.ext hE); (try replace h4 := h4.ext hE); (try replace hN := hN.ext hE); (try replace HE := Lib.hid (HE.out.trans hE)); (try replace r0 := r0.ext hE); (try replace r1 := r1.ext hE); (try replace r2 := r2.ext hE); (try replace r3 := r3.ext hE); (try replace r4 := r4.ext hE); (try replace r5 := r5.ext hE); (try replace r6 := r6.ext hE)
              replace hrow := hrow.ext hE
              clear hE cg
              (repeat (first | (refine seq_skip (by rfl) ?_; intro K hK; simp only [Act.put, List.setIfInBounds_toArray, List.set_cons_zero, List.set_cons_succ]; refine hK _ ?_; clear hK K) | (refine seq_skipc (by rfl) ?_; intro K hK; simp only [Act.put, List.setIfInBounds_toArray, List.set_cons_zero, List.set_cons_succ]; refine hK _ ?_; clear hK K) | (refine seq_read (by rfl) (by rfl) ?_; intro K hK; go_big_quiet_op; first | go_big_quiet_on | (refine ⟨_, fun _ _ => rfl, ?_⟩; go_big_quiet_on))))
              refine seq_store_row rfl rfl rfl (h4) (an_info _) (by simp [anC_size]) (anC_one _) (by rfl) ((below_row (Below.refl _ _) (by omega) _)) ?_; intro K hK; simp only [Act.put, List.setIfInBounds_toArray, List.set_cons_zero, List.set_cons_succ]; refine hK _ _ ?_; clear hK K
              (repeat (first | (refine seq_skip (by rfl) ?_; intro K hK; simp only [Act.put, List.setIfInBounds_toArray, List.set_cons_zero, List.set_cons_succ]; refine hK _ ?_; clear hK K) | (refine seq_skipc (by rfl) ?_; intro K hK; simp only [Act.put, List.setIfInBounds_toArray, List.set_cons_zero, List.set_cons_succ]; refine hK _ ?_; clear hK K) | (refine seq_read (by rfl) (by rfl) ?_; intro K hK; go_big_quiet_op; first | go_big_quiet_on | (refine ⟨_, fun _ _ => rfl, ?_⟩; go_big_quiet_on))))
              refine seq_done ?_
              replace h1 := h1.apart (show w.heap.size ≠ wd.heap.size by omega) (anC q)
              replace h2 := h2.apart (show gB ≠ wd.heap.size by omega) (anC q)
              replace hrow := hrow.own (show wd.heap.size ≠ g by omega) (anC q)
              replace HE := Lib.hid (HE.out.row (show w.heap.size ≤ wd.heap.size by omega) (anC q))
              replace h4 := h4.row (anC q)
              generalize w'.setRow wd.heap.size (anC q) = Y at *
              go_wp2_with (first | (refine wpList_load_blk (by rfl) 24 _ rfl rfl h4 Tryd.underlying24 rfl (by kernel_rfl) ?_) | (refine wpList_store_blk rfl 24 _ _ rfl rfl rfl h2 (an_info _) (by simp [anC_size]) (anC_one _) ?_))
              exact ⟨⟨j + 1, hjk, by go_num, h1.apart (by omega) _, by rw [Hq.out]; exact h2.row _, hrow.low hg0 _, HE.out.row (by omega) _⟩, by simp [intOf]; omega⟩
          · obtain rfl : j = k := by omega
            have hend := gvA_end hP
            rw [HN.out] at hend
            rw [hend] at h2
            have hor := or_u64 hP.o64 hP.f64
            have hfr : (((p.fr : Nat) : Int) == (p.fr : Int)) = true := by simp
            obtain ⟨y0, y1, y2⟩ := h2.an
            obtain ⟨z0, z1, z2⟩ := h1.an
            have hma := hP.ma
            simp only at y0 y1 y2
            clear hrow h1 h2 hend
            go_wp2
            go_ret
            exact ⟨rfl, HE.out⟩
      · have dk : decide ((k : Int) < 16) = false := by simp; omega
        clear h2 cf
        have h2 := h2z
        clear h2z
        go_wp2_with (refine wpList_load_blk (by rfl) 24 _ rfl rfl h1 Tryd.underlying24 rfl (by kernel_rfl) ?_)
        clear dk hk16
        refine (cfp _ (hTE _ HE.out)).mono ?_
        rintro e w9 ⟨rfl, hE⟩
        (try replace h1 := h1.ext hE); (try replace h2 := h2.ext hE); (try replace h4 := h4.ext hE); (try replace hN := hN.ext hE); (try replace HE := Lib.hid (HE.out.trans hE)); (try replace r0 := r0.ext hE); (try replace r1 := r1.ext hE); (try replace r2 := r2.ext hE); (try replace r3 := r3.ext hE); (try replace r4 := r4.ext hE); (try replace r5 := r5.ext hE); (try replace r6 := r6.ext hE)
        replace hrow := hrow.ext hE
        clear hE cfp
        go_wp2_with fail
        go_loopw [10] (fun i wr => ∃ j : Nat, j ≤ k ∧ i = .int .i64 j ∧ Blk wr w.heap.size 24 (anC p) ∧ Blk wr gB 24 (anC (gvA p j)) ∧ RowA wr A g0 k p.fr ∧ Ext w wr) (fun i _ => (k - intOf i).toNat)
        case atStart => exact ⟨0, by omega, rfl, h1, h2, hrow, HE.out⟩
        case round =>
          clear h1 h2 hrow HE
          obtain ⟨j, hj, rfl, h1, h2, hrow, hE⟩ := hrel
          have HE := Lib.hid hE
          clear hE
          by_cases hjk : j < k
          · have hjp : j < popN p.fr 64 := by rw [HN.out]; exact hjk
            obtain ⟨hgok, hgn⟩ := gvA_ok hP j (Nat.le_of_lt hjp)
            obtain ⟨b1, b2⟩ := hgn hjp
            have hLm : tkL p.fr j < m := by have := (tkA_ok hP j (Nat.le_of_lt hjp)).top (tkA_next hP hjp).1; rwa [tkA_low] at this
            have cg := fun W t => C.give (gvA p j) m (tkL p.fr j + 1) W hgok (by have := hP.m1; omega) t
            rw [(an_G1 b1).2, b2] at cg
            obtain ⟨g, rfl, hg1, hg2, hcl⟩ := hrow j hjk
            clear b1 b2 hLm hgok hgn hjp
            generalize tkL p.fr j + 1 = x at *
            obtain ⟨q, hq⟩ : ∃ q, gvA p (j + 1) = q := ⟨_, rfl⟩
            rw [hq] at cg
            have Hq := Lib.hid hq
            clear hq
            go_wp2_with fail
            have hql := h2.lt
            replace hcl := (show wr.drew.cell? ⟨g, j, none⟩ = _ from hcl)
            replace hrow := hrow.ext (Ext.refl wr).drew
            (try replace h1 := Blk.drew h1); (try replace h2 := Blk.drew h2); (try replace h4 := Blk.drew h4); replace HE := Lib.hid HE.out.drew
            have hwd : wr.drew.heap.size = wr.heap.size := rfl
            refine wp_region_fork [(0, false), (1, false), (2, false), (3, false), (4, false)] 5 [(6, false), (7, false), (8, false), (9, true), (10, true), (11, false)] 9 [(5, true), (6, false), (7, false), (8, false), (10, true), (11, false)] (Below (wr.heap.size)) (by kernel_rfl) (by kernel_rfl) (Below.refl _) (fun _ _ _ => Below.trans) ?_; simp only [List.map, nth_z, nth_s]
            generalize wr.drew = wd at *
            refine seq_load rfl rfl (fun x hx => Blk.below h2 hx hql) rfl Tryd.underlying24 (by kernel_rfl) (by rfl) ?_
            intro K hK; simp only [Act.put, List.setIfInBounds_toArray, List.set_cons_zero, List.set_cons_succ]; refine hK _ ?_; clear hK K
            (repeat (first | (refine seq_skip (by rfl) ?_; intro K hK; simp only [Act.put, List.setIfInBounds_toArray, List.set_cons_zero, List.set_cons_succ]; refine hK _ ?_; clear hK K) | (refine seq_skipc (by rfl) ?_; intro K hK; simp only [Act.put, List.setIfInBounds_toArray, List.set_cons_zero, List.set_cons_succ]; refine hK _ ?_; clear hK K) | (refine seq_read (by rfl) (by rfl) ?_; intro K hK; go_big_quiet_op; first | go_big_quiet_on | (refine ⟨_, fun _ _ => rfl, ?_⟩; go_big_quiet_on))))
            refine seq_value (.int .u64 (x : Int)) (by rfl) (fun x hx => by have hq := (Below.cell hx (p := ⟨g, j, none⟩) hg2).trans hcl; simp [go_sem, execOp, Act.eval, hq]) ?_; intro K hK; simp only [Act.put, List.setIfInBounds_toArray, List.set_cons_zero, List.set_cons_succ]; refine hK _ ?_; clear hK K
            refine seq_done ?_
            refine ⟨?_, ?_⟩
            · refine seq_call (cg _ (hTE _ HE.out)) rfl Tryd.func13 (by kernel_rfl) (by kernel_rfl) (by rfl) (by rfl) ?_; intro K hK; rintro e w' ⟨rfl, hE⟩; refine ⟨_, rfl, (Below.mono hE (by omega)), ?_⟩; simp only [Act.put, List.setIfInBounds_toArray, List.set_cons_zero, List.set_cons_succ]; refine hK _ _ ?_; clear hK K
              have hsz := hE.size
              (try replace h1 := h1.ext hE); (try replace h2 := h2.ext hE); (try replace h4 := h4.ext hE); (try replace hN := hN.ext hE); (try replace HE := Lib.hid (HE.out.trans hE)); (try replace r0 := r0.ext hE); (try replace r1 := r1.ext hE); (try replace r2 := r2.ext hE); (try replace r3 := r3.ext hE); (try replace r4 := r4.ext hE); (try replace r5 := r5.ext hE); (try replace r6 := r6.ext hE)
              replace hrow := hrow.ext hE
              clear hE cg
              (repeat (first | (refine seq_skip (by rfl) ?_; intro K hK; simp only [Act.put, List.setIfInBounds_toArray, List.set_cons_zero, List.set_cons_succ]; refine hK _ ?_; clear hK K) | (refine seq_skipc (by rfl) ?_; intro K hK; simp only [Act.put, List.setIfInBounds_toArray, List.set_cons_zero, List.set_cons_succ]; refine hK _ ?_; clear hK K) | (refine seq_read (by rfl) (by rfl) ?_; intro K hK; go_big_quiet_op; first | go_big_quiet_on | (refine ⟨_, fun _ _ => rfl, ?_⟩; go_big_quiet_on))))
              refine seq_run (.pointer (some ⟨w'.heap.size, 0, none⟩)) (w'.alloc (.cells #[.int .i64 0, .int .u64 0, .int .u64 0] 24)) (by rfl) ?_ (Below.alloc (Below.refl _ _) (by omega) _) ?_; (simp [go_sem, execOp, Act.eval]); intro K hK; simp only [Act.put, List.setIfInBounds_toArray, List.set_cons_zero, List.set_cons_succ]; refine hK _ _ ?_; clear hK K
              refine seq_store_row rfl rfl rfl ((Blk.new w' 24 #[.int .i64 0, .int .u64 0, .int .u64 0])) (an_info _) (by simp [anC_size]) (anC_one _) (by rfl) ((below_row (Below.refl _ _) (by omega) _)) ?_; intro K hK; simp only [Act.put, List.setIfInBounds_toArray, List.set_cons_zero, List.set_cons_succ]; refine hK _ _ ?_; clear hK K
              (repeat (first | (refine seq_skip (by rfl) ?_; intro K hK; simp only [Act.put, List.setIfInBounds_toArray, List.set_cons_zero, List.set_cons_succ]; refine hK _ ?_; clear hK K) | (refine seq_skipc (by rfl) ?_; intro K hK; simp only [Act.put, List.setIfInBounds_toArray, List.set_cons_zero, List.set_cons_succ]; refine hK _ ?_; clear hK K) | (refine seq_read (by rfl) (by rfl) ?_; intro K hK; go_big_quiet_op; first | go_big_quiet_on | (refine ⟨_, fun _ _ => rfl, ?_⟩; go_big_quiet_on))))
              refine seq_done ?_
              have hEx := ((Ext.refl w').alloc (.cells #[.int .i64 0, .int .u64 0, .int .u64 0] 24)).row (Nat.le_refl w'.heap.size) (anC q)
              have h4 := (Blk.new w' 24 #[.int .i64 0, .int .u64 0, .int .u64 0]).row (anC q)
              replace h1 := h1.ext hEx
              replace h2 := h2.ext hEx
              replace hrow := hrow.ext hEx
              replace HE := Lib.hid (HE.out.trans hEx)
              clear hEx
              generalize (w'.alloc (.cells #[.int .i64 0, .int .u64 0, .int .u64 0] 24)).setRow w'.heap.size (anC q) = Y at *
              go_wp2_with (first | (refine wpList_load_blk (by rfl) 24 _ rfl rfl h4 Tryd.underlying24 rfl (by kernel_rfl) ?_) | (refine wpList_store_blk rfl 24 _ _ rfl rfl rfl h2 (an_info _) (by simp [anC_size]) (anC_one _) ?_))
              exact ⟨⟨j + 1, hjk, by go_num, h1.apart (by omega) _, by rw [Hq.out]; exact h2.row _, hrow.low hg0 _, HE.out.row (by omega) _⟩, by simp [intOf]; omega⟩
            · refine seq_run (.pointer (some ⟨wd.heap.size, 0, none⟩)) (wd.alloc (.cells #[.int .i64 0, .int .u64 0, .int .u64 0] 24)) (by rfl) ?_ (Below.alloc (Below.refl _ _) (by omega) _) ?_; (simp [go_sem, execOp, Act.eval]); intro K hK; simp only [Act.put, List.setIfInBounds_toArray, List.set_cons_zero, List.set_cons_succ]; refine hK _ _ ?_; clear hK K
              have hE := (Ext.refl wd).alloc (.cells #[.int .i64 0, .int .u64 0, .int .u64 0] 24)
              have h4 := Blk.new wd 24 #[.int .i64 0, .int .u64 0, .int .u64 0]
              replace h1 := h1.ext hE
              replace h2 := h2.ext hE
              replace hrow := hrow.ext hE
              replace HE := Lib.hid (HE.out.trans hE)
              clear hE
              have hsz := h4.lt
              generalize wd.alloc (.cells #[.int .i64 0, .int .u64 0, .int .u64 0] 24) = wa at *
              refine seq_call (cg _ (hTE _ HE.out)) rfl Tryd.func13 (by kernel_rfl) (by kernel_rfl) (by rfl) (by rfl) ?_; intro K hK; rintro e w' ⟨rfl, hE⟩; refine ⟨_, rfl, (Below.mono hE (by omega)), ?_⟩; simp only [Act.put, List.setIfInBounds_toArray, List.set_cons_zero, List.set_cons_succ]; refine hK _ _ ?_; clear hK K
              (try replace h1 := h1.ext hE); (try replace h2 := h2.ext hE); (try replace h4 := h4.ext hE); (try replace hN := hN.ext hE); (try replace HE := Lib.hid (HE.out.trans hE)); (try replace r0 := r0.ext hE); (try replace r1 := r1.ext hE); (try replace r2 := r2.ext hE); (try replace r3 := r3.ext hE); (try replace r4 := r4.ext hE); (try replace r5 := r5.ext hE); (try replace r6 := r6.ext hE)
              replace hrow := hrow.ext hE
              clear hE cg
              (repeat (first | (refine seq_skip (by rfl) ?_; intro K hK; simp only [Act.put, List.setIfInBounds_toArray, List.set_cons_zero, List.set_cons_succ]; refine hK _ ?_; clear hK K) | (refine seq_skipc (by rfl) ?_; intro K hK; simp only [Act.put, List.setIfInBounds_toArray, List.set_cons_zero, List.set_cons_succ]; refine hK _ ?_; clear hK K) | (refine seq_read (by rfl) (by rfl) ?_; intro K hK; go_big_quiet_op; first | go_big_quiet_on | (refine ⟨_, fun _ _ => rfl, ?_⟩; go_big_quiet_on))))
              refine seq_store_row rfl rfl rfl (h4) (an_info _) (by simp [anC_size]) (anC_one _) (by rfl) ((below_row (Below.refl _ _) (by omega) _)) ?_; intro K hK; simp only [Act.put, List.setIfInBounds_toArray, List.set_cons_zero, List.set_cons_succ]; refine hK _ _ ?_; clear hK K
              (repeat (first | (refine seq_skip (by rfl) ?_; intro K hK; simp only [Act.put, List.setIfInBounds_toArray, List.set_cons_zero, List.set_cons_succ]; refine hK _ ?_; clear hK K) | (refine seq_skipc (by rfl) ?_; intro K hK; simp only [Act.put, List.setIfInBounds_toArray, List.set_cons_zero, List.set_cons_succ]; refine hK _ ?_; clear hK K) | (refine seq_read (by rfl) (by rfl) ?_; intro K hK; go_big_quiet_op; first | go_big_quiet_on | (refine ⟨_, fun _ _ => rfl, ?_⟩; go_big_quiet_on))))
              refine seq_done ?_
              replace h1 := h1.apart (show w.heap.size ≠ wd.heap.size by omega) (anC q)
              replace h2 := h2.apart (show gB ≠ wd.heap.size by omega) (anC q)
              replace hrow := hrow.own (show wd.heap.size ≠ g by omega) (anC q)
              replace HE := Lib.hid (HE.out.row (show w.heap.size ≤ wd.heap.size by omega) (anC q))
              replace h4 := h4.row (anC q)
              generalize w'.setRow wd.heap.size (anC q) = Y at *
              go_wp2_with (first | (refine wpList_load_blk (by rfl) 24 _ rfl rfl h4 Tryd.underlying24 rfl (by kernel_rfl) ?_) | (refine wpList_store_blk rfl 24 _ _ rfl rfl rfl h2 (an_info _) (by simp [anC_size]) (anC_one _) ?_))
              exact ⟨⟨j + 1, hjk, by go_num, h1.apart (by omega) _, by rw [Hq.out]; exact h2.row _, hrow.low hg0 _, HE.out.row (by omega) _⟩, by simp [intOf]; omega⟩
          · obtain rfl : j = k := by omega
            have hend := gvA_end hP
            rw [HN.out] at hend
            rw [hend] at h2
            have hor := or_u64 hP.o64 hP.f64
            have hfr : (((p.fr : Nat) : Int) == (p.fr : Int)) = true := by simp
            obtain ⟨y0, y1, y2⟩ := h2.an
            obtain ⟨z0, z1, z2⟩ := h1.an
            have hma := hP.ma
            simp only at y0 y1 y2
            clear hrow h1 h2 hend
            go_wp2
            go_ret
            exact ⟨rfl, HE.out⟩
end Go.Proofs.YtngioemeplllhaaDoor
