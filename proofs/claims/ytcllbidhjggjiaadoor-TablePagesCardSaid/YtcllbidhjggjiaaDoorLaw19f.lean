/- TablePages. -/
import Derived.Test.YtcllbidhjggjiaaDoorLaw19a
import Derived.Test.YtcllbidhjggjiaaDoorGrtac
import Derived.Test.YtcllbidhjggjiaaDoorGrten
namespace Go.Proofs.YtcllbidhjggjiaaDoor
open Go.ChangeShapes Go.WideShapes Go.ChangeAt Go.RowKit
set_option linter.unusedVariables false
set_option linter.unusedSimpArgs false
set_option maxRecDepth 10000

/-- a page's last address -/
def lastN (x : Pg) : Nat := ((x.va : Int) + sizI x.lv - 1).toNat
def inQ (x : Pg) (a : Nat) : Bool := decide (x.va ≤ a) && decide (a ≤ lastN x)
/-- does the address lie in one of the first pages? -/
def hitU (E : List Pg) (a : Nat) : Nat → Bool
  | 0 => false
  | k + 1 => hitU E a k || inQ (E.getD k KG.d) a
theorem hit_any (E : List Pg) (a : Nat) : ∀ k, hitU E a k = true ↔ ∃ j, j < k ∧ inQ (E.getD j KG.d) a = true
  | 0 => by simp [hitU]
  | k + 1 => by
    rw [hitU, Bool.or_eq_true, hit_any E a k]
    constructor
    · rintro (⟨j, h1, h2⟩ | h)
      · exact ⟨j, by omega, h2⟩
      · exact ⟨k, by omega, h⟩
    · rintro ⟨j, h1, h2⟩
      by_cases e : j = k
      · subst e; exact .inr h2
      · exact .inl ⟨j, by omega, h2⟩
theorem told_at {S : Nat} {L : List (Nat × Nat)} {t i : Nat} (hT : TreeOk S L 2 t) (hi : i < (pgL L 2 t).length) : PgT S L t ((pgL L 2 t).getD i KG.d) (lastN ((pgL L 2 t).getD i KG.d)) := by
  rw [getD_pg hi]
  have hm := List.getElem_mem hi
  generalize (pgL L 2 t)[i] = x at *
  unfold pgL at hm
  obtain ⟨y, hy, rfl⟩ := List.mem_map.1 hm
  have h := pg_told hT hy
  have e : lastN (pgO y) = vaN y.1 + (szN y.2.1 - 1) := by
    unfold lastN
    have := h.las
    omega
  rw [e]; exact h
theorem sizI_pos {l : Int} (h0 : 0 ≤ l) (h2 : l ≤ 2) : 4096 ≤ sizI l := by
  rcases siz_is h0 h2 with h | h | h <;> omega
theorem apart_at {S : Nat} {L : List (Nat × Nat)} {t i j : Nat} (hT : TreeOk S L 2 t) (hij : i < j) (hj : j < (pgL L 2 t).length) : lastN ((pgL L 2 t).getD i KG.d) < ((pgL L 2 t).getD j KG.d).va := by
  have h1 := told_at hT (show i < (pgL L 2 t).length by omega)
  have hp := pg_apart hT
  have h2 := List.pairwise_iff_getElem.1 hp i j (by omega) hj hij
  rw [← getD_pg (z := KG.d), ← getD_pg (z := KG.d)] at h2
  have := h1.las
  omega
theorem hit_end {S : Nat} {L : List (Nat × Nat)} {t a : Nat} (hT : TreeOk S L 2 t) (hv : vaB (a : Int) = true) (ha : a < 18446744073709551616) : (lookN S L t a).so = 0 ↔ hitU (pgL L 2 t) a (pgL L 2 t).length = true := by
  rw [pg_hit hT hv ha, hit_any]
  have key : ∀ i, i < (pgL L 2 t).length → (inQ ((pgL L 2 t).getD i KG.d) a = true ↔ ((((pgL L 2 t).getD i KG.d).va : Int) ≤ (a : Int) ∧ (a : Int) < (((pgL L 2 t).getD i KG.d).va : Int) + sizI ((pgL L 2 t).getD i KG.d).lv)) := fun i hi => by
    have h := (told_at hT hi).las
    unfold inQ
    rw [Bool.and_eq_true, decide_eq_true_iff, decide_eq_true_iff]
    omega
  constructor
  · rintro ⟨x, hx, h⟩
    obtain ⟨i, hi, rfl⟩ := List.getElem_of_mem hx
    refine ⟨i, hi, (key i hi).2 ?_⟩
    rw [getD_pg hi]; exact h
  · rintro ⟨i, hi, h⟩
    have h2 := (key i hi).1 h
    rw [getD_pg hi] at h2
    exact ⟨_, List.getElem_mem hi, h2⟩
attribute [irreducible] lastN
theorem lfC_d (p : Lf) : (lfC p)[9]? = some (.bool p.pt.d) := by simp only [lfC_eq, ptC_eq]; rfl
attribute [local irreducible] World.setRow World.alloc Blk
set_option maxRecDepth 100000 in
set_option maxHeartbeats 8000000 in
theorem TablePages_w {T : World → Prop} (C : TableC T) (caw : Awk19 T) (S : Nat) (B : Option Addr) (L : List (Nat × Nat)) (d t a : Nat) (hS : S < 18446744073709551616) (hL : IsCells L) (ht : t < 18446744073709551616) (a1 : a < 18446744073709551616) (w : World) (hm : RowL w B L d) (hT : T w) :
    Calls Tryd.prog 4 #[.agg #[.int .u64 (S : Int), .slice B L.length d], .int .u64 (t : Int), .int .u64 (a : Int)] w fun r w' => r = .returned (.bool true) ∧ Ext w w' := by
  have h1 := Blk.new w 25 #[.int .u64 (S : Int), .slice B L.length d]
  have HE := Lib.hid ((Ext.refl w).alloc (.cells #[.int .u64 (S : Int), .slice B L.length d] 25))
  have hTE : ∀ W : World, Ext w W → T W := fun W e => C.ext _ _ hT e
  have hmr : ∀ W : World, Ext w W → RowL W B L d := fun W e => hm.ext e
  have cft := fun W (r : RowL W B L d) => fits19_c S B L d t 2 hS hL ht W r
  have cia := fun W => ris5_c (a : Int) (by omega) (by omega) W
  unfold Awk19 at caw
  cases hf : fitR S L t 2
  · rw [hf] at cft
    clear cia hf
    go_enter Tryd.func4, Tryd.ntmps4
    go_wp2_with fail
    generalize hW1 : w.alloc (.cells #[.int .u64 (S : Int), .slice B L.length d] 25) = W1 at *
    clear hW1
    go_wp2_with (fail); refine (caw _ (hTE _ HE.out)).mono ?_; rintro e w' ⟨rfl, hE⟩; (try replace hb := hb.ext hE); (try replace hz := hz.ext hE); (try replace hm := hm.ext hE); (try replace h1 := h1.ext hE); (try replace h2 := h2.ext hE); (try replace h3 := h3.ext hE); (try replace h4 := h4.ext hE); (try replace h5 := h5.ext hE); (try replace h9 := h9.ext hE); (try replace HE := Lib.hid (HE.out.trans hE)); (try replace r0 := r0.ext hE); (try replace r1 := r1.ext hE); (try replace r2 := r2.ext hE); (try replace r3 := r3.ext hE); (try replace r4 := r4.ext hE); (try replace r5 := r5.ext hE); (try replace r6 := r6.ext hE); clear hE
    go_wp2_with ((refine wpList_load_blk (by rfl) 25 _ rfl rfl h1 Tryd.underlying25 rfl (by kernel_rfl) ?_)); refine (cft _ (hmr _ HE.out)).mono ?_; rintro e w' ⟨rfl, hE⟩; (try replace hb := hb.ext hE); (try replace hz := hz.ext hE); (try replace hm := hm.ext hE); (try replace h1 := h1.ext hE); (try replace h2 := h2.ext hE); (try replace h3 := h3.ext hE); (try replace h4 := h4.ext hE); (try replace h5 := h5.ext hE); (try replace h9 := h9.ext hE); (try replace HE := Lib.hid (HE.out.trans hE)); (try replace r0 := r0.ext hE); (try replace r1 := r1.ext hE); (try replace r2 := r2.ext hE); (try replace r3 := r3.ext hE); (try replace r4 := r4.ext hE); (try replace r5 := r5.ext hE); (try replace r6 := r6.ext hE); clear hE
    clear cft
    clear h1
    go_wp2_with fail
    refine (caw _ (hTE _ HE.out)).mono ?_
    rintro e wz ⟨rfl, hE⟩
    replace HE := Lib.hid (HE.out.trans hE)
    clear hE
    go_wp2
    go_ret
    exact ⟨rfl, HE.out⟩
  rw [hf] at cft
  cases hva : vaB (a : Int)
  · rw [hva] at cia
    clear hf hva
    go_enter Tryd.func4, Tryd.ntmps4
    go_wp2_with fail
    generalize hW1 : w.alloc (.cells #[.int .u64 (S : Int), .slice B L.length d] 25) = W1 at *
    clear hW1
    go_wp2_with (fail); refine (caw _ (hTE _ HE.out)).mono ?_; rintro e w' ⟨rfl, hE⟩; (try replace hb := hb.ext hE); (try replace hz := hz.ext hE); (try replace hm := hm.ext hE); (try replace h1 := h1.ext hE); (try replace h2 := h2.ext hE); (try replace h3 := h3.ext hE); (try replace h4 := h4.ext hE); (try replace h5 := h5.ext hE); (try replace h9 := h9.ext hE); (try replace HE := Lib.hid (HE.out.trans hE)); (try replace r0 := r0.ext hE); (try replace r1 := r1.ext hE); (try replace r2 := r2.ext hE); (try replace r3 := r3.ext hE); (try replace r4 := r4.ext hE); (try replace r5 := r5.ext hE); (try replace r6 := r6.ext hE); clear hE
    go_wp2_with ((refine wpList_load_blk (by rfl) 25 _ rfl rfl h1 Tryd.underlying25 rfl (by kernel_rfl) ?_)); refine (cft _ (hmr _ HE.out)).mono ?_; rintro e w' ⟨rfl, hE⟩; (try replace hb := hb.ext hE); (try replace hz := hz.ext hE); (try replace hm := hm.ext hE); (try replace h1 := h1.ext hE); (try replace h2 := h2.ext hE); (try replace h3 := h3.ext hE); (try replace h4 := h4.ext hE); (try replace h5 := h5.ext hE); (try replace h9 := h9.ext hE); (try replace HE := Lib.hid (HE.out.trans hE)); (try replace r0 := r0.ext hE); (try replace r1 := r1.ext hE); (try replace r2 := r2.ext hE); (try replace r3 := r3.ext hE); (try replace r4 := r4.ext hE); (try replace r5 := r5.ext hE); (try replace r6 := r6.ext hE); clear hE
    clear cft
    go_wp2_with (first | (go_at_call 20; (with_reducible refine (cia _).mono ?_); rintro e wq ⟨rfl, rfl⟩) | (refine wpList_load_blk (by rfl) 25 _ rfl rfl h1 Tryd.underlying25 rfl (by kernel_rfl) ?_))
    refine (caw _ (hTE _ HE.out)).mono ?_
    rintro e wz ⟨rfl, hE⟩
    replace HE := Lib.hid (HE.out.trans hE)
    clear hE
    go_wp2
    go_ret
    exact ⟨rfl, HE.out⟩
  rw [hva] at cia
  obtain ⟨hrl, hso, hlen, n, hn, hn2, hTr⟩ := fit19 hf hL
  obtain rfl : n = 2 := by omega
  have hMm : ∀ W : World, Ext w W → Mem W S B L d := fun W e => ⟨hm.ext e, hrl, hso, by omega⟩
  have ht44 : t < 17592186044416 := by have := hTr.top; have := hso.le; omega
  have cpg := fun W (m : Mem W S B L d) k => C.pages W m hn2 hTr k
  have hfew := pgL_few hTr
  have htold := fun i (h : i < (pgL L 2 t).length) => told_at hTr h
  have hapart := fun i j (h : i < j) (h2 : j < (pgL L 2 t).length) => apart_at hTr h h2
  have hend := Lib.hid (hit_end hTr hva a1)
  have clk := fun W (m : Mem W S B L d) b (b1 : b < 18446744073709551616) => rlook_c m ht44 b1 1 (by decide)
  simp only [show ((1 : Nat) : Int) = 1 from rfl] at clk
  clear hn hf hva
  go_enter Tryd.func4, Tryd.ntmps4
  go_wp2_with fail
  generalize hW1 : w.alloc (.cells #[.int .u64 (S : Int), .slice B L.length d] 25) = W1 at *
  clear hW1
  go_wp2_with (fail); refine (caw _ (hTE _ HE.out)).mono ?_; rintro e w' ⟨rfl, hE⟩; (try replace hb := hb.ext hE); (try replace hz := hz.ext hE); (try replace hm := hm.ext hE); (try replace h1 := h1.ext hE); (try replace h2 := h2.ext hE); (try replace h3 := h3.ext hE); (try replace h4 := h4.ext hE); (try replace h5 := h5.ext hE); (try replace h9 := h9.ext hE); (try replace HE := Lib.hid (HE.out.trans hE)); (try replace r0 := r0.ext hE); (try replace r1 := r1.ext hE); (try replace r2 := r2.ext hE); (try replace r3 := r3.ext hE); (try replace r4 := r4.ext hE); (try replace r5 := r5.ext hE); (try replace r6 := r6.ext hE); clear hE
  go_wp2_with ((refine wpList_load_blk (by rfl) 25 _ rfl rfl h1 Tryd.underlying25 rfl (by kernel_rfl) ?_)); refine (cft _ (hmr _ HE.out)).mono ?_; rintro e w' ⟨rfl, hE⟩; (try replace hb := hb.ext hE); (try replace hz := hz.ext hE); (try replace hm := hm.ext hE); (try replace h1 := h1.ext hE); (try replace h2 := h2.ext hE); (try replace h3 := h3.ext hE); (try replace h4 := h4.ext hE); (try replace h5 := h5.ext hE); (try replace h9 := h9.ext hE); (try replace HE := Lib.hid (HE.out.trans hE)); (try replace r0 := r0.ext hE); (try replace r1 := r1.ext hE); (try replace r2 := r2.ext hE); (try replace r3 := r3.ext hE); (try replace r4 := r4.ext hE); (try replace r5 := r5.ext hE); (try replace r6 := r6.ext hE); clear hE
  clear cft
  go_wp2_with (first | (go_at_call 20; (with_reducible refine (cia _).mono ?_); rintro e wq ⟨rfl, rfl⟩) | (refine wpList_load_blk (by rfl) 25 _ rfl rfl h1 Tryd.underlying25 rfl (by kernel_rfl) ?_))
  refine (cpg _ (hMm _ HE.out) (hTE _ HE.out)).mono ?_
  rintro e w1 ⟨AE, cE, rfl, hr, -, hE⟩
  (try replace hb := hb.ext hE); (try replace hz := hz.ext hE); (try replace hm := hm.ext hE); (try replace h1 := h1.ext hE); (try replace h2 := h2.ext hE); (try replace h3 := h3.ext hE); (try replace h4 := h4.ext hE); (try replace h5 := h5.ext hE); (try replace h9 := h9.ext hE); (try replace HE := Lib.hid (HE.out.trans hE)); (try replace r0 := r0.ext hE); (try replace r1 := r1.ext hE); (try replace r2 := r2.ext hE); (try replace r3 := r3.ext hE); (try replace r4 := r4.ext hE); (try replace r5 := r5.ext hE); (try replace r6 := r6.ext hE)
  clear hE cpg cia
  generalize pgL L 2 t = E at *
  obtain ⟨nE, hnE⟩ : ∃ nE, E.length = nE := ⟨_, rfl⟩
  have hr0 := hr.1
  rw [hnE] at hfew htold hapart hend hr0 ⊢
  have HrE := Lib.hid hr
  have HnE := Lib.hid hnE
  clear hr hnE hTr
  have HEb := HE
  clear HE
  go_wp2_with fail
  go_loopw [8, 9] (fun hb i wr => ∃ k : Nat, k ≤ nE ∧ i = .int .i64 k ∧ hb = .bool (hitU E a k) ∧ Blk wr w.heap.size 25 #[.int .u64 (S : Int), .slice B L.length d] ∧ RowV KG wr AE E cE ∧ Ext w wr) (fun _ i _ => (nE - intOf i).toNat)
  case atStart => exact ⟨0, by omega, rfl, rfl, h1, HrE.out, HEb.out⟩
  case round =>
    clear h1 HrE HEb
    obtain ⟨k, hk, rfl, rfl, h1, r1, hE⟩ := hrel
    have HE := Lib.hid hE
    clear hE
    by_cases hlt : k < nE
    case neg =>
      obtain rfl : k = nE := by omega
      have hb : (fltF (lookN S L t a).so 1 a).b = !hitU E a k := by
        cases hH : hitU E a k
        · have : (lookN S L t a).so ≠ 0 := fun e => by have := hend.out.1 e; rw [hH] at this; cases this
          unfold fltF; rw [if_neg this]; rfl
        · have := hend.out.2 hH
          rw [this, flt_zero]; rfl
      have cl := fun W (m : Mem W S B L d) => clk W m a a1
      generalize (lookN S L t a).lf = ql at *
      generalize fltF (lookN S L t a).so 1 a = F at *
      generalize hitU E a k = H at *
      clear hend clk hapart htold hr0 r1 hlt
      go_wp2_with (refine wpList_load_blk (by rfl) 25 _ rfl rfl h1 Tryd.underlying25 rfl (by kernel_rfl) ?_)
      refine (cl _ (hMm _ HE.out)).mono ?_
      rintro e w2 ⟨rfl, hE⟩
      (try replace hb := hb.ext hE); (try replace hz := hz.ext hE); (try replace hm := hm.ext hE); (try replace h1 := h1.ext hE); (try replace h2 := h2.ext hE); (try replace h3 := h3.ext hE); (try replace h4 := h4.ext hE); (try replace h5 := h5.ext hE); (try replace h9 := h9.ext hE); (try replace HE := Lib.hid (HE.out.trans hE)); (try replace r0 := r0.ext hE); (try replace r1 := r1.ext hE); (try replace r2 := r2.ext hE); (try replace r3 := r3.ext hE); (try replace r4 := r4.ext hE); (try replace r5 := r5.ext hE); (try replace r6 := r6.ext hE)
      clear hE cl h1
      have zz1 : Blk ((w2.alloc (.cells #[.int .i64 0, .int .u64 0, .bool false, .bool false, .bool false, .bool false, .bool false, .bool false, .bool false, .bool false, .int .u64 0, .int .u64 0, .int .u64 0] 55)).alloc (.cells #[.bool false, .int .i64 0, .int .u64 0] 57)) w2.heap.size 55 #[.int .i64 0, .int .u64 0, .bool false, .bool false, .bool false, .bool false, .bool false, .bool false, .bool false, .bool false, .int .u64 0, .int .u64 0, .int .u64 0] := (Blk.new _ _ _).alloc _; have zz2 : Blk (((w2.alloc (.cells #[.int .i64 0, .int .u64 0, .bool false, .bool false, .bool false, .bool false, .bool false, .bool false, .bool false, .bool false, .int .u64 0, .int .u64 0, .int .u64 0] 55)).alloc (.cells #[.bool false, .int .i64 0, .int .u64 0] 57)).setRow w2.heap.size (lfC ql)) (w2.heap.size + 1) 57 #[.bool false, .int .i64 0, .int .u64 0] := Blk.apart (blk_at (by simp)) (by omega) _; have hE := ((((Ext.refl w2).alloc (.cells #[.int .i64 0, .int .u64 0, .bool false, .bool false, .bool false, .bool false, .bool false, .bool false, .bool false, .bool false, .int .u64 0, .int .u64 0, .int .u64 0] 55)).alloc (.cells #[.bool false, .int .i64 0, .int .u64 0] 57)).row (show w2.heap.size ≤ w2.heap.size from Nat.le_refl _) (lfC ql)).row (show w2.heap.size ≤ w2.heap.size + 1 by omega) (ftC F); (try replace hb := hb.ext hE); (try replace hz := hz.ext hE); (try replace hm := hm.ext hE); (try replace h1 := h1.ext hE); (try replace h2 := h2.ext hE); (try replace h3 := h3.ext hE); (try replace h4 := h4.ext hE); (try replace h5 := h5.ext hE); (try replace h9 := h9.ext hE); (try replace HE := Lib.hid (HE.out.trans hE)); (try replace r0 := r0.ext hE); (try replace r1 := r1.ext hE); (try replace r2 := r2.ext hE); (try replace r3 := r3.ext hE); (try replace r4 := r4.ext hE); (try replace r5 := r5.ext hE); (try replace r6 := r6.ext hE); clear hE; have h2 := (zz1.row (lfC ql)).apart (show w2.heap.size ≠ w2.heap.size + 1 by omega) (ftC F); have h3 := zz2.row (ftC F)
      go_upto_region 23 with (first | (refine wpList_store_blk rfl 55 _ _ rfl rfl rfl zz1 (lf_info _) (by simp [lfC_size]) (lfC_one _) ?_) | ((refine wpList_store_blk rfl 57 _ _ rfl rfl rfl zz2 (ft_info _) (by simp [ftC_size]) (ftC_one _) ?_); clear zz1 zz2; generalize (((w2.alloc (.cells #[.int .i64 0, .int .u64 0, .bool false, .bool false, .bool false, .bool false, .bool false, .bool false, .bool false, .bool false, .int .u64 0, .int .u64 0, .int .u64 0] 55)).alloc (.cells #[.bool false, .int .i64 0, .int .u64 0] 57)).setRow w2.heap.size (lfC ql)).setRow (w2.heap.size + 1) (ftC F) = X at *))
      (try simp only [Act.put, List.setIfInBounds_toArray, List.set_cons_zero, List.set_cons_succ])
      have x0 : _ = some (Value.bool F.b) := h3.ft.1
      rw [hb] at x0
      clear hb h2 h3
      cases H
      all_goals
        go_wp2
        go_ret
        exact ⟨rfl, HE.out⟩
    have hkz : (k : Int) < (nE : Int) := by omega
    obtain ⟨b1, o1, rfl, -, -⟩ := hr0 (by omega)
    have e1 : wr.rangeAt b1 (o1 + k * 8) (pgC (E.getD k KG.d)).toList := r1.at (by rw [HnE.out]; exact hlt)
    have hto := htold k hlt
    have hnx : hitU E a (k + 1) = (hitU E a k || (decide ((E.getD k KG.d).va ≤ a) && decide (a ≤ lastN (E.getD k KG.d)))) := rfl
    have hap := fun j h => hapart j k h hlt
    obtain ⟨kk, pp, hk1, hk2, hpa, hpm, hpd, hp44⟩ := hto.look
    obtain ⟨xp, hxp⟩ : ∃ xp, E.getD k KG.d = xp := ⟨_, rfl⟩
    rw [hxp] at e1 hto hnx hk1 hk2 hpa hpm hpd hap
    obtain ⟨q, hq⟩ : ∃ q : Lf, (⟨xp.lv, kk, pp⟩ : Lf) = q := ⟨_, rfl⟩
    rw [hq] at hk1 hk2
    have hqlv : q.lv = xp.lv := by rw [← hq]
    have hqpt : q.pt = pp := by rw [← hq]
    have cl1 := fun W (m : Mem W S B L d) => clk W m xp.va hto.va
    have cl2 := fun W (m : Mem W S B L d) => clk W m (lastN xp) hto.las64
    rw [hk1] at cl1
    rw [hk2] at cl2
    simp only [flt_zero] at cl1 cl2
    have hof : offI (xp.va : Int) xp.lv = 0 := by
      have := hto.fit
      rw [fitB_eq, Bool.and_eq_true, beq_iff_eq] at this
      exact this.2
    have cph := fun W => rphysical_c q (by rw [hqpt]; exact hp44) (by rw [hqlv]; exact hto.lv.1) (by rw [hqlv]; exact hto.lv.2) hto.va W
    have hph : physI q xp.va = (xp.pa : Int) := by
      unfold physI
      rw [hqlv, hof, hqpt, hpa]; omega
    rw [hph] at cph
    have cpm := fun W => rperm_c pp W
    rw [hpm] at cpm
    have cfi := fun W => rfits5_c (xp.va : Int) xp.lv (by omega) (by have := hto.va; omega) hto.lv.1 hto.lv.2 W
    rw [hto.fit] at cfi
    have csz := fun W => rsize5_c xp.lv hto.lv.1 hto.lv.2 W
    have hszp := sizI_pos hto.lv.1 hto.lv.2
    have hszl := (siz_lt hto.lv.1 hto.lv.2).2
    have hlas := hto.las
    have hva64 := hto.va
    have hla64 := hto.las64
    have hlx := Lib.hid (show xp.va ≤ lastN xp by omega)
    have d1 : decide (xp.lv < 0) = false := by have := hto.lv.1; simp; omega
    have d2 : decide (2 < xp.lv) = false := by have := hto.lv.2; simp; omega
    obtain ⟨z, hz⟩ : ∃ z : Int, IntKind.u64.wrap ((xp.va : Int) + sizI xp.lv) = z := ⟨_, rfl⟩
    have hz2 : IntKind.u64.wrap (z - 1) = ((lastN xp : Nat) : Int) := by
      rw [← hz, IntKind.wrap_u64, IntKind.wrap_u64]; omega
    generalize sizI xp.lv = sz at *
    generalize lastN xp = last at *
    clear hto hk1 hk2 hof hph clk hszp hszl hlas hpa hp44
    have zz1 : Blk (wr.alloc (.cells #[.int .u64 0, .int .u64 0, .int .i64 0, .bool false, .bool false, .bool false, .bool false, .bool false] 49)) wr.heap.size 49 #[.int .u64 0, .int .u64 0, .int .i64 0, .bool false, .bool false, .bool false, .bool false, .bool false] := Blk.new _ _ _; have hE := ((Ext.refl wr).alloc (.cells #[.int .u64 0, .int .u64 0, .int .i64 0, .bool false, .bool false, .bool false, .bool false, .bool false] 49)).row (Nat.le_refl wr.heap.size) (pgC xp); have hE0 := hE; (try replace hb := hb.ext hE); (try replace hz := hz.ext hE); (try replace hm := hm.ext hE); (try replace h1 := h1.ext hE); (try replace h2 := h2.ext hE); (try replace h3 := h3.ext hE); (try replace h4 := h4.ext hE); (try replace h5 := h5.ext hE); (try replace h9 := h9.ext hE); (try replace HE := Lib.hid (HE.out.trans hE)); (try replace r0 := r0.ext hE); (try replace r1 := r1.ext hE); (try replace r2 := r2.ext hE); (try replace r3 := r3.ext hE); (try replace r4 := r4.ext hE); (try replace r5 := r5.ext hE); (try replace r6 := r6.ext hE); clear hE; have h9 := zz1.row (pgC xp)
    clear hE0
    go_upto_region 9 with (first | ((refine wpList_store_blk rfl 49 _ _ rfl rfl rfl zz1 (pg_info _) (by simp [pgC_size]) (pgC_one _) ?_); clear zz1; generalize (wr.alloc (.cells #[.int .u64 0, .int .u64 0, .int .i64 0, .bool false, .bool false, .bool false, .bool false, .bool false] 49)).setRow wr.heap.size (pgC xp) = X at *) | (refine wpList_load_rng (by rfl) 49 _ rfl rfl e1 Tryd.underlying49 rfl (pg_info _) ?_))
    (try simp only [Act.put, List.setIfInBounds_toArray, List.set_cons_zero, List.set_cons_succ])
    clear e1
    have v2 : _ = some (Value.int .i64 xp.lv) := h9.pg_lv
    have v0 : _ = some (Value.int .u64 (xp.va : Int)) := h9.pg_va
    go_wp2_with (go_at_call 22; (with_reducible refine (cfi _).mono ?_); rintro e wq ⟨rfl, rfl⟩)
    clear cfi d1 d2 v0 v2
    (try replace hb := Blk.drew hb); (try replace hz := Blk.drew hz); (try replace hm := Blk.drew hm); (try replace h1 := Blk.drew h1); (try replace h2 := Blk.drew h2); (try replace h3 := Blk.drew h3); (try replace h4 := Blk.drew h4); (try replace h5 := Blk.drew h5); (try replace h9 := Blk.drew h9); replace HE := Lib.hid HE.out.drew
    replace r1 := r1.ext (Ext.refl _).drew
    refine wp_region_seq [(0, false), (1, false), (2, false), (3, false), (4, true), (5, false), (6, false), (7, false)] Ext (by kernel_rfl) (by kernel_rfl) Ext.refl (fun _ _ _ => Ext.trans) ?_; simp only [List.map, nth_z, nth_s]
    (try simp only [Act.put, List.setIfInBounds_toArray, List.set_cons_zero, List.set_cons_succ])
    (repeat (first | (refine seq_skip (by rfl) ?_; intro K hK; simp only [Act.put, List.setIfInBounds_toArray, List.set_cons_zero, List.set_cons_succ]; refine hK _ ?_; clear hK K) | (refine seq_skipc (by rfl) ?_; intro K hK; simp only [Act.put, List.setIfInBounds_toArray, List.set_cons_zero, List.set_cons_succ]; refine hK _ ?_; clear hK K) | (refine seq_read (by rfl) (by rfl) ?_; intro K hK; go_big_quiet_op; first | go_big_quiet_on | (refine ⟨_, fun _ _ => rfl, ?_⟩; go_big_quiet_on))))
    refine seq_value ((.int .u64 (xp.va : Int))) (by rfl) (fun x hx => by have hq := ext_cell hx (h9.pg_va); simp [go_sem, execOp, Act.eval, hq]) ?_; intro K hK; simp only [Act.put, List.setIfInBounds_toArray, List.set_cons_zero, List.set_cons_succ]; refine hK _ ?_; clear hK K
    (repeat (first | (refine seq_skip (by rfl) ?_; intro K hK; simp only [Act.put, List.setIfInBounds_toArray, List.set_cons_zero, List.set_cons_succ]; refine hK _ ?_; clear hK K) | (refine seq_skipc (by rfl) ?_; intro K hK; simp only [Act.put, List.setIfInBounds_toArray, List.set_cons_zero, List.set_cons_succ]; refine hK _ ?_; clear hK K) | (refine seq_read (by rfl) (by rfl) ?_; intro K hK; go_big_quiet_op; first | go_big_quiet_on | (refine ⟨_, fun _ _ => rfl, ?_⟩; go_big_quiet_on))))
    refine seq_value ((.int .i64 xp.lv)) (by rfl) (fun x hx => by have hq := ext_cell hx (h9.pg_lv); simp [go_sem, execOp, Act.eval, hq]) ?_; intro K hK; simp only [Act.put, List.setIfInBounds_toArray, List.set_cons_zero, List.set_cons_succ]; refine hK _ ?_; clear hK K
    refine seq_call (calls_ext (csz _)) rfl Tryd.func23 (by kernel_rfl) (by kernel_rfl) (by rfl) (by rfl) ?_; intro K hK; rintro e w' ⟨rfl, hE⟩; refine ⟨_, rfl, hE, ?_⟩; simp only [Act.put, List.setIfInBounds_toArray, List.set_cons_zero, List.set_cons_succ]; refine hK _ _ ?_; clear hK K; (try replace hb := hb.ext hE); (try replace hz := hz.ext hE); (try replace hm := hm.ext hE); (try replace h1 := h1.ext hE); (try replace h2 := h2.ext hE); (try replace h3 := h3.ext hE); (try replace h4 := h4.ext hE); (try replace h5 := h5.ext hE); (try replace h9 := h9.ext hE); (try replace HE := Lib.hid (HE.out.trans hE)); (try replace r0 := r0.ext hE); (try replace r1 := r1.ext hE); (try replace r2 := r2.ext hE); (try replace r3 := r3.ext hE); (try replace r4 := r4.ext hE); (try replace r5 := r5.ext hE); (try replace r6 := r6.ext hE); clear hE
    (repeat (first | (refine seq_skip (by rfl) ?_; intro K hK; simp only [Act.put, List.setIfInBounds_toArray, List.set_cons_zero, List.set_cons_succ]; refine hK _ ?_; clear hK K) | (refine seq_skipc (by rfl) ?_; intro K hK; simp only [Act.put, List.setIfInBounds_toArray, List.set_cons_zero, List.set_cons_succ]; refine hK _ ?_; clear hK K) | (refine seq_read (by rfl) (by rfl) ?_; intro K hK; go_big_quiet_op; first | go_big_quiet_on | (refine ⟨_, fun _ _ => rfl, ?_⟩; go_big_quiet_on))))
    refine seq_done ?_
    clear csz hz hz2
    have v0 : _ = some (Value.int .u64 (xp.va : Int)) := h9.pg_va
    go_wp2_with (refine wpList_load_blk (by rfl) 25 _ rfl rfl h1 Tryd.underlying25 rfl (by kernel_rfl) ?_)
    clear v0
    refine (cl1 _ (hMm _ HE.out)).mono ?_
    rintro e w2 ⟨rfl, hE⟩
    (try replace hb := hb.ext hE); (try replace hz := hz.ext hE); (try replace hm := hm.ext hE); (try replace h1 := h1.ext hE); (try replace h2 := h2.ext hE); (try replace h3 := h3.ext hE); (try replace h4 := h4.ext hE); (try replace h5 := h5.ext hE); (try replace h9 := h9.ext hE); (try replace HE := Lib.hid (HE.out.trans hE)); (try replace r0 := r0.ext hE); (try replace r1 := r1.ext hE); (try replace r2 := r2.ext hE); (try replace r3 := r3.ext hE); (try replace r4 := r4.ext hE); (try replace r5 := r5.ext hE); (try replace r6 := r6.ext hE)
    clear hE cl1
    have zz1 : Blk ((w2.alloc (.cells #[.int .i64 0, .int .u64 0, .bool false, .bool false, .bool false, .bool false, .bool false, .bool false, .bool false, .bool false, .int .u64 0, .int .u64 0, .int .u64 0] 55)).alloc (.cells #[.bool false, .int .i64 0, .int .u64 0] 57)) w2.heap.size 55 #[.int .i64 0, .int .u64 0, .bool false, .bool false, .bool false, .bool false, .bool false, .bool false, .bool false, .bool false, .int .u64 0, .int .u64 0, .int .u64 0] := (Blk.new _ _ _).alloc _; have zz2 : Blk (((w2.alloc (.cells #[.int .i64 0, .int .u64 0, .bool false, .bool false, .bool false, .bool false, .bool false, .bool false, .bool false, .bool false, .int .u64 0, .int .u64 0, .int .u64 0] 55)).alloc (.cells #[.bool false, .int .i64 0, .int .u64 0] 57)).setRow w2.heap.size (lfC q)) (w2.heap.size + 1) 57 #[.bool false, .int .i64 0, .int .u64 0] := Blk.apart (blk_at (by simp)) (by omega) _; have hE := ((((Ext.refl w2).alloc (.cells #[.int .i64 0, .int .u64 0, .bool false, .bool false, .bool false, .bool false, .bool false, .bool false, .bool false, .bool false, .int .u64 0, .int .u64 0, .int .u64 0] 55)).alloc (.cells #[.bool false, .int .i64 0, .int .u64 0] 57)).row (show w2.heap.size ≤ w2.heap.size from Nat.le_refl _) (lfC q)).row (show w2.heap.size ≤ w2.heap.size + 1 by omega) (ftC zFt); (try replace hb := hb.ext hE); (try replace hz := hz.ext hE); (try replace hm := hm.ext hE); (try replace h1 := h1.ext hE); (try replace h2 := h2.ext hE); (try replace h3 := h3.ext hE); (try replace h4 := h4.ext hE); (try replace h5 := h5.ext hE); (try replace h9 := h9.ext hE); (try replace HE := Lib.hid (HE.out.trans hE)); (try replace r0 := r0.ext hE); (try replace r1 := r1.ext hE); (try replace r2 := r2.ext hE); (try replace r3 := r3.ext hE); (try replace r4 := r4.ext hE); (try replace r5 := r5.ext hE); (try replace r6 := r6.ext hE); clear hE; have h2 := (zz1.row (lfC q)).apart (show w2.heap.size ≠ w2.heap.size + 1 by omega) (ftC zFt); have h3 := zz2.row (ftC zFt)
    go_wp2_with (first | (first | (refine wpList_store_blk rfl 55 _ _ rfl rfl rfl zz1 (lf_info _) (by simp [lfC_size]) (lfC_one _) ?_) | ((refine wpList_store_blk rfl 57 _ _ rfl rfl rfl zz2 (ft_info _) (by simp [ftC_size]) (ftC_one _) ?_); clear zz1 zz2; generalize (((w2.alloc (.cells #[.int .i64 0, .int .u64 0, .bool false, .bool false, .bool false, .bool false, .bool false, .bool false, .bool false, .bool false, .int .u64 0, .int .u64 0, .int .u64 0] 55)).alloc (.cells #[.bool false, .int .i64 0, .int .u64 0] 57)).setRow w2.heap.size (lfC q)).setRow (w2.heap.size + 1) (ftC zFt) = X at *)) | (refine wpList_load_blk (by rfl) 25 _ rfl rfl h1 Tryd.underlying25 rfl (by kernel_rfl) ?_))
    refine (cl2 _ (hMm _ HE.out)).mono ?_
    rintro e w3 ⟨rfl, hE⟩
    (try replace hb := hb.ext hE); (try replace hz := hz.ext hE); (try replace hm := hm.ext hE); (try replace h1 := h1.ext hE); (try replace h2 := h2.ext hE); (try replace h3 := h3.ext hE); (try replace h4 := h4.ext hE); (try replace h5 := h5.ext hE); (try replace h9 := h9.ext hE); (try replace HE := Lib.hid (HE.out.trans hE)); (try replace r0 := r0.ext hE); (try replace r1 := r1.ext hE); (try replace r2 := r2.ext hE); (try replace r3 := r3.ext hE); (try replace r4 := r4.ext hE); (try replace r5 := r5.ext hE); (try replace r6 := r6.ext hE)
    clear hE cl2
    have zz1 : Blk ((w3.alloc (.cells #[.int .i64 0, .int .u64 0, .bool false, .bool false, .bool false, .bool false, .bool false, .bool false, .bool false, .bool false, .int .u64 0, .int .u64 0, .int .u64 0] 55)).alloc (.cells #[.bool false, .int .i64 0, .int .u64 0] 57)) w3.heap.size 55 #[.int .i64 0, .int .u64 0, .bool false, .bool false, .bool false, .bool false, .bool false, .bool false, .bool false, .bool false, .int .u64 0, .int .u64 0, .int .u64 0] := (Blk.new _ _ _).alloc _; have zz2 : Blk (((w3.alloc (.cells #[.int .i64 0, .int .u64 0, .bool false, .bool false, .bool false, .bool false, .bool false, .bool false, .bool false, .bool false, .int .u64 0, .int .u64 0, .int .u64 0] 55)).alloc (.cells #[.bool false, .int .i64 0, .int .u64 0] 57)).setRow w3.heap.size (lfC q)) (w3.heap.size + 1) 57 #[.bool false, .int .i64 0, .int .u64 0] := Blk.apart (blk_at (by simp)) (by omega) _; have hE := ((((Ext.refl w3).alloc (.cells #[.int .i64 0, .int .u64 0, .bool false, .bool false, .bool false, .bool false, .bool false, .bool false, .bool false, .bool false, .int .u64 0, .int .u64 0, .int .u64 0] 55)).alloc (.cells #[.bool false, .int .i64 0, .int .u64 0] 57)).row (show w3.heap.size ≤ w3.heap.size from Nat.le_refl _) (lfC q)).row (show w3.heap.size ≤ w3.heap.size + 1 by omega) (ftC zFt); (try replace hb := hb.ext hE); (try replace hz := hz.ext hE); (try replace hm := hm.ext hE); (try replace h1 := h1.ext hE); (try replace h2 := h2.ext hE); (try replace h3 := h3.ext hE); (try replace h4 := h4.ext hE); (try replace h5 := h5.ext hE); (try replace h9 := h9.ext hE); (try replace HE := Lib.hid (HE.out.trans hE)); (try replace r0 := r0.ext hE); (try replace r1 := r1.ext hE); (try replace r2 := r2.ext hE); (try replace r3 := r3.ext hE); (try replace r4 := r4.ext hE); (try replace r5 := r5.ext hE); (try replace r6 := r6.ext hE); clear hE; have h4 := (zz1.row (lfC q)).apart (show w3.heap.size ≠ w3.heap.size + 1 by omega) (ftC zFt); have h5 := zz2.row (ftC zFt)
    go_upto_region 14 with (first | (refine wpList_store_blk rfl 55 _ _ rfl rfl rfl zz1 (lf_info _) (by simp [lfC_size]) (lfC_one _) ?_) | ((refine wpList_store_blk rfl 57 _ _ rfl rfl rfl zz2 (ft_info _) (by simp [ftC_size]) (ftC_one _) ?_); clear zz1 zz2; generalize (((w3.alloc (.cells #[.int .i64 0, .int .u64 0, .bool false, .bool false, .bool false, .bool false, .bool false, .bool false, .bool false, .bool false, .int .u64 0, .int .u64 0, .int .u64 0] 55)).alloc (.cells #[.bool false, .int .i64 0, .int .u64 0] 57)).setRow w3.heap.size (lfC q)).setRow (w3.heap.size + 1) (ftC zFt) = X at *))
    have hlv2 : _ = some (Value.int .i64 xp.lv) := (h2.lf_lv).trans (by rw [hqlv])
    have hpt := lfC_pt q
    have hdq : (lfC q)[9]? = some (.bool xp.st) := by rw [← hpd, ← hqpt]; exact lfC_d q
    rw [hqpt] at hpt
    have hnl : ∀ w, (binOp .neq 55 (.agg (lfC q)) (.agg (lfC q))).run Tryd.prog w = .ok (.bool false) w := fun w => (neq_lf w q q).trans (by simp)
    have hnp : ∀ w, (binOp .neq 47 (.agg (pmC xp.pm)) (.agg (pmC xp.pm))).run Tryd.prog w = .ok (.bool false) w := fun w => (neq_pm w _ _).trans (by simp)
    clear hq hpm hpd hqlv hqpt
    (try replace hb := Blk.drew hb); (try replace hz := Blk.drew hz); (try replace hm := Blk.drew hm); (try replace h1 := Blk.drew h1); (try replace h2 := Blk.drew h2); (try replace h3 := Blk.drew h3); (try replace h4 := Blk.drew h4); (try replace h5 := Blk.drew h5); (try replace h9 := Blk.drew h9); replace HE := Lib.hid HE.out.drew
    replace r1 := r1.ext (Ext.refl _).drew
    replace hlv2 : X.drew.cell? _ = some (Value.int .i64 xp.lv) := hlv2
    have hf3 : X.drew.cell? _ = some (Value.bool false) := h3.ft.1
    have hf5 : X.drew.cell? _ = some (Value.bool false) := h5.ft.1
    have hd2 := (h2.cell 9).trans hdq
    refine wp_region_seq [(0, false), (1, false), (2, false), (3, false), (4, false), (5, false), (6, false), (7, false), (8, false), (9, false), (10, false), (11, false), (12, false), (13, false), (14, false), (15, false), (16, false), (17, false), (18, false), (19, false), (20, false), (21, false), (23, false), (24, false), (22, true), (25, false), (26, false), (27, false), (28, false), (29, false), (31, false), (32, false), (30, true), (33, false), (34, false), (35, false), (36, false), (37, false), (38, false), (39, false), (40, false), (41, false), (42, false)] Ext (by kernel_rfl) (by kernel_rfl) Ext.refl (fun _ _ _ => Ext.trans) ?_; simp only [List.map, nth_z, nth_s]
    (try simp only [Act.put, List.setIfInBounds_toArray, List.set_cons_zero, List.set_cons_succ])
    (repeat (first | (refine seq_skip (by rfl) ?_; intro K hK; simp only [Act.put, List.setIfInBounds_toArray, List.set_cons_zero, List.set_cons_succ]; refine hK _ ?_; clear hK K) | (refine seq_skipc (by rfl) ?_; intro K hK; simp only [Act.put, List.setIfInBounds_toArray, List.set_cons_zero, List.set_cons_succ]; refine hK _ ?_; clear hK K) | (refine seq_read (by rfl) (by rfl) ?_; intro K hK; go_big_quiet_op; first | go_big_quiet_on | (refine ⟨_, fun _ _ => rfl, ?_⟩; go_big_quiet_on))))
    refine seq_value ((.bool false)) (by rfl) (fun x hx => by have hq := ext_cell hx (hf3); simp [go_sem, execOp, Act.eval, hq]) ?_; intro K hK; simp only [Act.put, List.setIfInBounds_toArray, List.set_cons_zero, List.set_cons_succ]; refine hK _ ?_; clear hK K
    (repeat (first | (refine seq_skip (by rfl) ?_; intro K hK; simp only [Act.put, List.setIfInBounds_toArray, List.set_cons_zero, List.set_cons_succ]; refine hK _ ?_; clear hK K) | (refine seq_skipc (by rfl) ?_; intro K hK; simp only [Act.put, List.setIfInBounds_toArray, List.set_cons_zero, List.set_cons_succ]; refine hK _ ?_; clear hK K) | (refine seq_read (by rfl) (by rfl) ?_; intro K hK; go_big_quiet_op; first | go_big_quiet_on | (refine ⟨_, fun _ _ => rfl, ?_⟩; go_big_quiet_on))))
    refine seq_value ((.bool false)) (by rfl) (fun x hx => by have hq := ext_cell hx (hf5); simp [go_sem, execOp, Act.eval, hq]) ?_; intro K hK; simp only [Act.put, List.setIfInBounds_toArray, List.set_cons_zero, List.set_cons_succ]; refine hK _ ?_; clear hK K
    (repeat (first | (refine seq_skip (by rfl) ?_; intro K hK; simp only [Act.put, List.setIfInBounds_toArray, List.set_cons_zero, List.set_cons_succ]; refine hK _ ?_; clear hK K) | (refine seq_skipc (by rfl) ?_; intro K hK; simp only [Act.put, List.setIfInBounds_toArray, List.set_cons_zero, List.set_cons_succ]; refine hK _ ?_; clear hK K) | (refine seq_read (by rfl) (by rfl) ?_; intro K hK; go_big_quiet_op; first | go_big_quiet_on | (refine ⟨_, fun _ _ => rfl, ?_⟩; go_big_quiet_on))))
    refine seq_load rfl rfl (fun x hx => Blk.ext (h2) hx) rfl Tryd.underlying55 (by kernel_rfl) (by rfl) ?_; intro K hK; simp only [Act.put, List.setIfInBounds_toArray, List.set_cons_zero, List.set_cons_succ]; refine hK _ ?_; clear hK K
    refine seq_load rfl rfl (fun x hx => Blk.ext (h4) hx) rfl Tryd.underlying55 (by kernel_rfl) (by rfl) ?_; intro K hK; simp only [Act.put, List.setIfInBounds_toArray, List.set_cons_zero, List.set_cons_succ]; refine hK _ ?_; clear hK K
    refine seq_cmp rfl rfl rfl (lf_guard) (hnl) (by rfl) ?_; intro K hK; simp only [Act.put, List.setIfInBounds_toArray, List.set_cons_zero, List.set_cons_succ]; refine hK _ ?_; clear hK K
    (repeat (first | (refine seq_skip (by rfl) ?_; intro K hK; simp only [Act.put, List.setIfInBounds_toArray, List.set_cons_zero, List.set_cons_succ]; refine hK _ ?_; clear hK K) | (refine seq_skipc (by rfl) ?_; intro K hK; simp only [Act.put, List.setIfInBounds_toArray, List.set_cons_zero, List.set_cons_succ]; refine hK _ ?_; clear hK K) | (refine seq_read (by rfl) (by rfl) ?_; intro K hK; go_big_quiet_op; first | go_big_quiet_on | (refine ⟨_, fun _ _ => rfl, ?_⟩; go_big_quiet_on))))
    refine seq_value ((.int .i64 xp.lv)) (by rfl) (fun x hx => by have hq := ext_cell hx (hlv2); simp [go_sem, execOp, Act.eval, hq]) ?_; intro K hK; simp only [Act.put, List.setIfInBounds_toArray, List.set_cons_zero, List.set_cons_succ]; refine hK _ ?_; clear hK K
    (repeat (first | (refine seq_skip (by rfl) ?_; intro K hK; simp only [Act.put, List.setIfInBounds_toArray, List.set_cons_zero, List.set_cons_succ]; refine hK _ ?_; clear hK K) | (refine seq_skipc (by rfl) ?_; intro K hK; simp only [Act.put, List.setIfInBounds_toArray, List.set_cons_zero, List.set_cons_succ]; refine hK _ ?_; clear hK K) | (refine seq_read (by rfl) (by rfl) ?_; intro K hK; go_big_quiet_op; first | go_big_quiet_on | (refine ⟨_, fun _ _ => rfl, ?_⟩; go_big_quiet_on))))
    refine seq_value ((.int .i64 xp.lv)) (by rfl) (fun x hx => by have hq := ext_cell hx (h9.pg_lv); simp [go_sem, execOp, Act.eval, hq]) ?_; intro K hK; simp only [Act.put, List.setIfInBounds_toArray, List.set_cons_zero, List.set_cons_succ]; refine hK _ ?_; clear hK K
    (repeat (first | (refine seq_skip (by rfl) ?_; intro K hK; simp only [Act.put, List.setIfInBounds_toArray, List.set_cons_zero, List.set_cons_succ]; refine hK _ ?_; clear hK K) | (refine seq_skipc (by rfl) ?_; intro K hK; simp only [Act.put, List.setIfInBounds_toArray, List.set_cons_zero, List.set_cons_succ]; refine hK _ ?_; clear hK K) | (refine seq_read (by rfl) (by rfl) ?_; intro K hK; go_big_quiet_op; first | go_big_quiet_on | (refine ⟨_, fun _ _ => rfl, ?_⟩; go_big_quiet_on))))
    refine seq_load rfl rfl (fun x hx => Blk.ext (h2) hx) rfl Tryd.underlying55 (by kernel_rfl) (by rfl) ?_; intro K hK; simp only [Act.put, List.setIfInBounds_toArray, List.set_cons_zero, List.set_cons_succ]; refine hK _ ?_; clear hK K
    (repeat (first | (refine seq_skip (by rfl) ?_; intro K hK; simp only [Act.put, List.setIfInBounds_toArray, List.set_cons_zero, List.set_cons_succ]; refine hK _ ?_; clear hK K) | (refine seq_skipc (by rfl) ?_; intro K hK; simp only [Act.put, List.setIfInBounds_toArray, List.set_cons_zero, List.set_cons_succ]; refine hK _ ?_; clear hK K) | (refine seq_read (by rfl) (by rfl) ?_; intro K hK; go_big_quiet_op; first | go_big_quiet_on | (refine ⟨_, fun _ _ => rfl, ?_⟩; go_big_quiet_on))))
    refine seq_value ((.int .u64 (xp.va : Int))) (by rfl) (fun x hx => by have hq := ext_cell hx (h9.pg_va); simp [go_sem, execOp, Act.eval, hq]) ?_; intro K hK; simp only [Act.put, List.setIfInBounds_toArray, List.set_cons_zero, List.set_cons_succ]; refine hK _ ?_; clear hK K
    (repeat (first | (refine seq_skip (by rfl) ?_; intro K hK; simp only [Act.put, List.setIfInBounds_toArray, List.set_cons_zero, List.set_cons_succ]; refine hK _ ?_; clear hK K) | (refine seq_skipc (by rfl) ?_; intro K hK; simp only [Act.put, List.setIfInBounds_toArray, List.set_cons_zero, List.set_cons_succ]; refine hK _ ?_; clear hK K) | (refine seq_read (by rfl) (by rfl) ?_; intro K hK; go_big_quiet_op; first | go_big_quiet_on | (refine ⟨_, fun _ _ => rfl, ?_⟩; go_big_quiet_on))))
    refine seq_value ((.int .u64 (xp.pa : Int))) (by rfl) (fun x hx => by have hq := ext_cell hx (h9.pg_pa); simp [go_sem, execOp, Act.eval, hq]) ?_; intro K hK; simp only [Act.put, List.setIfInBounds_toArray, List.set_cons_zero, List.set_cons_succ]; refine hK _ ?_; clear hK K
    refine seq_call (cph _) rfl Tryd.func25 (by kernel_rfl) (by kernel_rfl) (by rfl) (by rfl) ?_; intro K hK; rintro e w' ⟨rfl, hE⟩; refine ⟨_, rfl, hE, ?_⟩; simp only [Act.put, List.setIfInBounds_toArray, List.set_cons_zero, List.set_cons_succ]; refine hK _ _ ?_; clear hK K
    replace hd2 := ext_cell hE hd2
    (try replace hb := hb.ext hE); (try replace hz := hz.ext hE); (try replace hm := hm.ext hE); (try replace h1 := h1.ext hE); (try replace h2 := h2.ext hE); (try replace h3 := h3.ext hE); (try replace h4 := h4.ext hE); (try replace h5 := h5.ext hE); (try replace h9 := h9.ext hE); (try replace HE := Lib.hid (HE.out.trans hE)); (try replace r0 := r0.ext hE); (try replace r1 := r1.ext hE); (try replace r2 := r2.ext hE); (try replace r3 := r3.ext hE); (try replace r4 := r4.ext hE); (try replace r5 := r5.ext hE); (try replace r6 := r6.ext hE)
    clear hE cph
    (repeat (first | (refine seq_skip (by rfl) ?_; intro K hK; simp only [Act.put, List.setIfInBounds_toArray, List.set_cons_zero, List.set_cons_succ]; refine hK _ ?_; clear hK K) | (refine seq_skipc (by rfl) ?_; intro K hK; simp only [Act.put, List.setIfInBounds_toArray, List.set_cons_zero, List.set_cons_succ]; refine hK _ ?_; clear hK K) | (refine seq_read (by rfl) (by rfl) ?_; intro K hK; go_big_quiet_op; first | go_big_quiet_on | (refine ⟨_, fun _ _ => rfl, ?_⟩; go_big_quiet_on))))
    refine seq_load_part rfl rfl (fun x hx => Blk.ext (h2) hx) (hpt) rfl Tryd.underlying53 (pt_info _) (by rfl) ?_; intro K hK; simp only [Act.put, List.setIfInBounds_toArray, List.set_cons_zero, List.set_cons_succ]; refine hK _ ?_; clear hK K
    (repeat (first | (refine seq_skip (by rfl) ?_; intro K hK; simp only [Act.put, List.setIfInBounds_toArray, List.set_cons_zero, List.set_cons_succ]; refine hK _ ?_; clear hK K) | (refine seq_skipc (by rfl) ?_; intro K hK; simp only [Act.put, List.setIfInBounds_toArray, List.set_cons_zero, List.set_cons_succ]; refine hK _ ?_; clear hK K) | (refine seq_read (by rfl) (by rfl) ?_; intro K hK; go_big_quiet_op; first | go_big_quiet_on | (refine ⟨_, fun _ _ => rfl, ?_⟩; go_big_quiet_on))))
    refine seq_load_part rfl rfl (fun x hx => Blk.ext (h9) hx) (pgC_pm xp) rfl Tryd.underlying47 (pm_info _) (by rfl) ?_; intro K hK; simp only [Act.put, List.setIfInBounds_toArray, List.set_cons_zero, List.set_cons_succ]; refine hK _ ?_; clear hK K
    refine seq_call (cpm _) rfl Tryd.func26 (by kernel_rfl) (by kernel_rfl) (by rfl) (by rfl) ?_; intro K hK; rintro e w' ⟨rfl, hE⟩; refine ⟨_, rfl, hE, ?_⟩; simp only [Act.put, List.setIfInBounds_toArray, List.set_cons_zero, List.set_cons_succ]; refine hK _ _ ?_; clear hK K
    replace hd2 := ext_cell hE hd2
    (try replace hb := hb.ext hE); (try replace hz := hz.ext hE); (try replace hm := hm.ext hE); (try replace h1 := h1.ext hE); (try replace h2 := h2.ext hE); (try replace h3 := h3.ext hE); (try replace h4 := h4.ext hE); (try replace h5 := h5.ext hE); (try replace h9 := h9.ext hE); (try replace HE := Lib.hid (HE.out.trans hE)); (try replace r0 := r0.ext hE); (try replace r1 := r1.ext hE); (try replace r2 := r2.ext hE); (try replace r3 := r3.ext hE); (try replace r4 := r4.ext hE); (try replace r5 := r5.ext hE); (try replace r6 := r6.ext hE)
    clear hE cpm
    refine seq_cmp rfl rfl rfl (pm_guard) (hnp) (by rfl) ?_; intro K hK; simp only [Act.put, List.setIfInBounds_toArray, List.set_cons_zero, List.set_cons_succ]; refine hK _ ?_; clear hK K
    (repeat (first | (refine seq_skip (by rfl) ?_; intro K hK; simp only [Act.put, List.setIfInBounds_toArray, List.set_cons_zero, List.set_cons_succ]; refine hK _ ?_; clear hK K) | (refine seq_skipc (by rfl) ?_; intro K hK; simp only [Act.put, List.setIfInBounds_toArray, List.set_cons_zero, List.set_cons_succ]; refine hK _ ?_; clear hK K) | (refine seq_read (by rfl) (by rfl) ?_; intro K hK; go_big_quiet_op; first | go_big_quiet_on | (refine ⟨_, fun _ _ => rfl, ?_⟩; go_big_quiet_on))))
    refine seq_value ((.bool xp.st)) (by rfl) (fun x hx => by have hq := ext_cell hx (hd2); simp [go_sem, execOp, Act.eval, hq]) ?_; intro K hK; simp only [Act.put, List.setIfInBounds_toArray, List.set_cons_zero, List.set_cons_succ]; refine hK _ ?_; clear hK K
    (repeat (first | (refine seq_skip (by rfl) ?_; intro K hK; simp only [Act.put, List.setIfInBounds_toArray, List.set_cons_zero, List.set_cons_succ]; refine hK _ ?_; clear hK K) | (refine seq_skipc (by rfl) ?_; intro K hK; simp only [Act.put, List.setIfInBounds_toArray, List.set_cons_zero, List.set_cons_succ]; refine hK _ ?_; clear hK K) | (refine seq_read (by rfl) (by rfl) ?_; intro K hK; go_big_quiet_op; first | go_big_quiet_on | (refine ⟨_, fun _ _ => rfl, ?_⟩; go_big_quiet_on))))
    refine seq_value ((.bool xp.st)) (by rfl) (fun x hx => by have hq := ext_cell hx (h9.pg_st); simp [go_sem, execOp, Act.eval, hq]) ?_; intro K hK; simp only [Act.put, List.setIfInBounds_toArray, List.set_cons_zero, List.set_cons_succ]; refine hK _ ?_; clear hK K
    (repeat (first | (refine seq_skip (by rfl) ?_; intro K hK; simp only [Act.put, List.setIfInBounds_toArray, List.set_cons_zero, List.set_cons_succ]; refine hK _ ?_; clear hK K) | (refine seq_skipc (by rfl) ?_; intro K hK; simp only [Act.put, List.setIfInBounds_toArray, List.set_cons_zero, List.set_cons_succ]; refine hK _ ?_; clear hK K) | (refine seq_read (by rfl) (by rfl) ?_; intro K hK; go_big_quiet_op; first | go_big_quiet_on | (refine ⟨_, fun _ _ => rfl, ?_⟩; go_big_quiet_on))))
    refine seq_done ?_
    clear hd2 hf3 hf5 hlv2 hdq hpt hnl hnp h2 h3 h4 h5
    cases hH : hitU E a k
    · by_cases ca : xp.va ≤ a
      · by_cases cb : a ≤ last
        · have da1 : decide ((xp.va : Int) ≤ (a : Int)) = true := by simp; omega
          have da2 : decide (xp.va ≤ a) = true := by simp; omega
          have db1 : decide ((a : Int) ≤ (last : Int)) = true := by simp; omega
          have db2 : decide (a ≤ last) = true := by simp; omega
          rw [hH, da2, db2] at hnx
          have v0 : _ = some (Value.int .u64 (xp.va : Int)) := h9.pg_va
          have hnh := Lib.hid hnx
          clear hnx hH
          go_wp2_with fail
          clear v0 da1 da2 db1 db2
          go_loopw [16] (fun jv wr2 => ∃ jj : Nat, jj ≤ k ∧ jv = .int .i64 jj ∧ Blk wr2 w.heap.size 25 #[.int .u64 (S : Int), .slice B L.length d] ∧ Blk wr2 wr.heap.size 49 (pgC xp) ∧ RowV KG wr2 (some ⟨b1, o1, none⟩) E cE ∧ Ext w wr2) (fun jv _ => (k - intOf jv).toNat)
          case atStart => exact ⟨0, by omega, rfl, h1, h9, r1, HE.out⟩
          case round =>
            clear h1 h9 r1 HE
            obtain ⟨jj, hjj, rfl, h1, h9, r1, hE⟩ := hrel
            have HE := Lib.hid hE
            clear hE
            by_cases hjl : jj < k
            · have e2 : wr.rangeAt b1 (o1 + jj * 8) (pgC (E.getD jj KG.d)).toList := r1.at (by rw [HnE.out]; omega)
              have yto := htold jj (by omega)
              have yap := hap jj hjl
              generalize E.getD jj KG.d = yp at *
              have y0 : wr.cell? ⟨b1, o1 + jj * 8, none⟩ = some (.int .u64 (yp.va : Int)) := e2 0 _ (by rw [Array.getElem?_toList]; exact pgC_va yp)
              have y2 : wr.cell? ⟨b1, o1 + jj * 8 + 2, none⟩ = some (.int .i64 yp.lv) := e2 2 _ (by rw [Array.getElem?_toList]; exact pgC_lv yp)
              have csz := fun W => rsize5_c yp.lv yto.lv.1 yto.lv.2 W
              have hylas := yto.las
              have hyla64 := yto.las64
              have hyva := yto.va
              have hyp := sizI_pos yto.lv.1 yto.lv.2
              have hlx2 := hlx.out
              have dl1 : decide ((yp.va : Int) ≤ (last : Int)) = true := by simp; omega
              have dl2 : decide (yp.va ≤ last) = true := by simp; omega
              clear hlx2
              obtain ⟨zy, hz⟩ : ∃ z : Int, IntKind.u64.wrap ((yp.va : Int) + sizI yp.lv) = z := ⟨_, rfl⟩
              have hz2 : IntKind.u64.wrap (zy - 1) = ((lastN yp : Nat) : Int) := by
                rw [← hz, IntKind.wrap_u64, IntKind.wrap_u64]; omega
              have dm1 : decide ((xp.va : Int) ≤ ((lastN yp : Nat) : Int)) = false := by simp; omega
              have dm2 : decide (xp.va ≤ lastN yp) = false := by simp; omega
              generalize lastN yp = lasty at *
              generalize sizI yp.lv = szy at *
              clear yto yap e2 hylas hyp
              have hjn : (jj : Int) < (nE : Int) := by omega
              have hjk : (jj : Int) < (k : Int) := by omega
              go_wp2_with fail
              (try replace hb := Blk.drew hb); (try replace hz := Blk.drew hz); (try replace hm := Blk.drew hm); (try replace h1 := Blk.drew h1); (try replace h2 := Blk.drew h2); (try replace h3 := Blk.drew h3); (try replace h4 := Blk.drew h4); (try replace h5 := Blk.drew h5); (try replace h9 := Blk.drew h9); replace HE := Lib.hid HE.out.drew
              replace r1 := r1.ext (Ext.refl _).drew
              replace y0 : wr.drew.cell? _ = _ := y0
              replace y2 : wr.drew.cell? _ = _ := y2
              refine wp_region_seq [(0, false), (1, false), (2, false), (3, false), (4, false), (5, false), (6, false), (7, false), (8, false), (9, false), (10, false), (11, false), (12, false), (13, false), (14, false), (15, false), (16, false), (17, false), (18, false), (19, false), (20, true), (21, false), (22, false), (23, false), (24, false)] Ext (by kernel_rfl) (by kernel_rfl) Ext.refl (fun _ _ _ => Ext.trans) ?_; simp only [List.map, nth_z, nth_s]
              (try simp only [Act.put, List.setIfInBounds_toArray, List.set_cons_zero, List.set_cons_succ])
              (repeat (first | (refine seq_skip (by rfl) ?_; intro K hK; simp only [Act.put, List.setIfInBounds_toArray, List.set_cons_zero, List.set_cons_succ]; refine hK _ ?_; clear hK K) | (refine seq_skipc (by rfl) ?_; intro K hK; simp only [Act.put, List.setIfInBounds_toArray, List.set_cons_zero, List.set_cons_succ]; refine hK _ ?_; clear hK K) | (refine seq_read (by rfl) (by rfl) ?_; intro K hK; go_big_quiet_op; first | go_big_quiet_on | (refine ⟨_, fun _ _ => rfl, ?_⟩; go_big_quiet_on))))
              refine seq_value ((.int .u64 (yp.va : Int))) (by rfl) (fun x hx => by have hq := ext_cell hx (y0); simp [go_sem, execOp, Act.eval, hq]) ?_; intro K hK; simp only [Act.put, List.setIfInBounds_toArray, List.set_cons_zero, List.set_cons_succ]; refine hK _ ?_; clear hK K
              (repeat (first | (refine seq_skip (by rfl) ?_; intro K hK; simp only [Act.put, List.setIfInBounds_toArray, List.set_cons_zero, List.set_cons_succ]; refine hK _ ?_; clear hK K) | (refine seq_skipc (by rfl) ?_; intro K hK; simp only [Act.put, List.setIfInBounds_toArray, List.set_cons_zero, List.set_cons_succ]; refine hK _ ?_; clear hK K) | (refine seq_read (by rfl) (by rfl) ?_; intro K hK; go_big_quiet_op; first | go_big_quiet_on | (refine ⟨_, fun _ _ => rfl, ?_⟩; go_big_quiet_on))))
              refine seq_value ((.int .u64 (xp.va : Int))) (by rfl) (fun x hx => by have hq := ext_cell hx (h9.pg_va); simp [go_sem, execOp, Act.eval, hq]) ?_; intro K hK; simp only [Act.put, List.setIfInBounds_toArray, List.set_cons_zero, List.set_cons_succ]; refine hK _ ?_; clear hK K
              (repeat (first | (refine seq_skip (by rfl) ?_; intro K hK; simp only [Act.put, List.setIfInBounds_toArray, List.set_cons_zero, List.set_cons_succ]; refine hK _ ?_; clear hK K) | (refine seq_skipc (by rfl) ?_; intro K hK; simp only [Act.put, List.setIfInBounds_toArray, List.set_cons_zero, List.set_cons_succ]; refine hK _ ?_; clear hK K) | (refine seq_read (by rfl) (by rfl) ?_; intro K hK; go_big_quiet_op; first | go_big_quiet_on | (refine ⟨_, fun _ _ => rfl, ?_⟩; go_big_quiet_on))))
              refine seq_value ((.int .u64 (yp.va : Int))) (by rfl) (fun x hx => by have hq := ext_cell hx (y0); simp [go_sem, execOp, Act.eval, hq]) ?_; intro K hK; simp only [Act.put, List.setIfInBounds_toArray, List.set_cons_zero, List.set_cons_succ]; refine hK _ ?_; clear hK K
              (repeat (first | (refine seq_skip (by rfl) ?_; intro K hK; simp only [Act.put, List.setIfInBounds_toArray, List.set_cons_zero, List.set_cons_succ]; refine hK _ ?_; clear hK K) | (refine seq_skipc (by rfl) ?_; intro K hK; simp only [Act.put, List.setIfInBounds_toArray, List.set_cons_zero, List.set_cons_succ]; refine hK _ ?_; clear hK K) | (refine seq_read (by rfl) (by rfl) ?_; intro K hK; go_big_quiet_op; first | go_big_quiet_on | (refine ⟨_, fun _ _ => rfl, ?_⟩; go_big_quiet_on))))
              refine seq_value ((.int .i64 yp.lv)) (by rfl) (fun x hx => by have hq := ext_cell hx (y2); simp [go_sem, execOp, Act.eval, hq]) ?_; intro K hK; simp only [Act.put, List.setIfInBounds_toArray, List.set_cons_zero, List.set_cons_succ]; refine hK _ ?_; clear hK K
              refine seq_call (calls_ext (csz _)) rfl Tryd.func23 (by kernel_rfl) (by kernel_rfl) (by rfl) (by rfl) ?_; intro K hK; rintro e w' ⟨rfl, hE⟩; refine ⟨_, rfl, hE, ?_⟩; simp only [Act.put, List.setIfInBounds_toArray, List.set_cons_zero, List.set_cons_succ]; refine hK _ _ ?_; clear hK K; (try replace hb := hb.ext hE); (try replace hz := hz.ext hE); (try replace hm := hm.ext hE); (try replace h1 := h1.ext hE); (try replace h2 := h2.ext hE); (try replace h3 := h3.ext hE); (try replace h4 := h4.ext hE); (try replace h5 := h5.ext hE); (try replace h9 := h9.ext hE); (try replace HE := Lib.hid (HE.out.trans hE)); (try replace r0 := r0.ext hE); (try replace r1 := r1.ext hE); (try replace r2 := r2.ext hE); (try replace r3 := r3.ext hE); (try replace r4 := r4.ext hE); (try replace r5 := r5.ext hE); (try replace r6 := r6.ext hE); clear hE
              (repeat (first | (refine seq_skip (by rfl) ?_; intro K hK; simp only [Act.put, List.setIfInBounds_toArray, List.set_cons_zero, List.set_cons_succ]; refine hK _ ?_; clear hK K) | (refine seq_skipc (by rfl) ?_; intro K hK; simp only [Act.put, List.setIfInBounds_toArray, List.set_cons_zero, List.set_cons_succ]; refine hK _ ?_; clear hK K) | (refine seq_read (by rfl) (by rfl) ?_; intro K hK; go_big_quiet_op; first | go_big_quiet_on | (refine ⟨_, fun _ _ => rfl, ?_⟩; go_big_quiet_on))))
              refine seq_done ?_
              clear csz hz hz2 dl1 dl2 dm1 dm2 y0 y2
              go_wp2
              go_roundw
              case rel => exact ⟨jj + 1, by omega, by go_num, h1, h9, r1, HE.out⟩
              case measure => simp [intOf]; omega
            · obtain rfl : jj = k := by omega
              go_wp2
              go_roundw
              case rel => exact ⟨jj + 1, by omega, by go_num, by rw [hnh.out]; rfl, h1, r1, HE.out⟩
              case measure => simp [intOf]; omega
        · have da1 : decide ((xp.va : Int) ≤ (a : Int)) = true := by simp; omega
          have da2 : decide (xp.va ≤ a) = true := by simp; omega
          have db1 : decide ((a : Int) ≤ (last : Int)) = false := by simp; omega
          have db2 : decide (a ≤ last) = false := by simp; omega
          rw [hH, da2, db2] at hnx
          have v0 : _ = some (Value.int .u64 (xp.va : Int)) := h9.pg_va
          have hnh := Lib.hid hnx
          clear hnx hH
          go_wp2_with fail
          clear v0 da1 da2 db1 db2
          go_loopw [16] (fun jv wr2 => ∃ jj : Nat, jj ≤ k ∧ jv = .int .i64 jj ∧ Blk wr2 w.heap.size 25 #[.int .u64 (S : Int), .slice B L.length d] ∧ Blk wr2 wr.heap.size 49 (pgC xp) ∧ RowV KG wr2 (some ⟨b1, o1, none⟩) E cE ∧ Ext w wr2) (fun jv _ => (k - intOf jv).toNat)
          case atStart => exact ⟨0, by omega, rfl, h1, h9, r1, HE.out⟩
          case round =>
            clear h1 h9 r1 HE
            obtain ⟨jj, hjj, rfl, h1, h9, r1, hE⟩ := hrel
            have HE := Lib.hid hE
            clear hE
            by_cases hjl : jj < k
            · have e2 : wr.rangeAt b1 (o1 + jj * 8) (pgC (E.getD jj KG.d)).toList := r1.at (by rw [HnE.out]; omega)
              have yto := htold jj (by omega)
              have yap := hap jj hjl
              generalize E.getD jj KG.d = yp at *
              have y0 : wr.cell? ⟨b1, o1 + jj * 8, none⟩ = some (.int .u64 (yp.va : Int)) := e2 0 _ (by rw [Array.getElem?_toList]; exact pgC_va yp)
              have y2 : wr.cell? ⟨b1, o1 + jj * 8 + 2, none⟩ = some (.int .i64 yp.lv) := e2 2 _ (by rw [Array.getElem?_toList]; exact pgC_lv yp)
              have csz := fun W => rsize5_c yp.lv yto.lv.1 yto.lv.2 W
              have hylas := yto.las
              have hyla64 := yto.las64
              have hyva := yto.va
              have hyp := sizI_pos yto.lv.1 yto.lv.2
              have hlx2 := hlx.out
              have dl1 : decide ((yp.va : Int) ≤ (last : Int)) = true := by simp; omega
              have dl2 : decide (yp.va ≤ last) = true := by simp; omega
              clear hlx2
              obtain ⟨zy, hz⟩ : ∃ z : Int, IntKind.u64.wrap ((yp.va : Int) + sizI yp.lv) = z := ⟨_, rfl⟩
              have hz2 : IntKind.u64.wrap (zy - 1) = ((lastN yp : Nat) : Int) := by
                rw [← hz, IntKind.wrap_u64, IntKind.wrap_u64]; omega
              have dm1 : decide ((xp.va : Int) ≤ ((lastN yp : Nat) : Int)) = false := by simp; omega
              have dm2 : decide (xp.va ≤ lastN yp) = false := by simp; omega
              generalize lastN yp = lasty at *
              generalize sizI yp.lv = szy at *
              clear yto yap e2 hylas hyp
              have hjn : (jj : Int) < (nE : Int) := by omega
              have hjk : (jj : Int) < (k : Int) := by omega
              go_wp2_with fail
              (try replace hb := Blk.drew hb); (try replace hz := Blk.drew hz); (try replace hm := Blk.drew hm); (try replace h1 := Blk.drew h1); (try replace h2 := Blk.drew h2); (try replace h3 := Blk.drew h3); (try replace h4 := Blk.drew h4); (try replace h5 := Blk.drew h5); (try replace h9 := Blk.drew h9); replace HE := Lib.hid HE.out.drew
              replace r1 := r1.ext (Ext.refl _).drew
              replace y0 : wr.drew.cell? _ = _ := y0
              replace y2 : wr.drew.cell? _ = _ := y2
              refine wp_region_seq [(0, false), (1, false), (2, false), (3, false), (4, false), (5, false), (6, false), (7, false), (8, false), (9, false), (10, false), (11, false), (12, false), (13, false), (14, false), (15, false), (16, false), (17, false), (18, false), (19, false), (20, true), (21, false), (22, false), (23, false), (24, false)] Ext (by kernel_rfl) (by kernel_rfl) Ext.refl (fun _ _ _ => Ext.trans) ?_; simp only [List.map, nth_z, nth_s]
              (try simp only [Act.put, List.setIfInBounds_toArray, List.set_cons_zero, List.set_cons_succ])
              (repeat (first | (refine seq_skip (by rfl) ?_; intro K hK; simp only [Act.put, List.setIfInBounds_toArray, List.set_cons_zero, List.set_cons_succ]; refine hK _ ?_; clear hK K) | (refine seq_skipc (by rfl) ?_; intro K hK; simp only [Act.put, List.setIfInBounds_toArray, List.set_cons_zero, List.set_cons_succ]; refine hK _ ?_; clear hK K) | (refine seq_read (by rfl) (by rfl) ?_; intro K hK; go_big_quiet_op; first | go_big_quiet_on | (refine ⟨_, fun _ _ => rfl, ?_⟩; go_big_quiet_on))))
              refine seq_value ((.int .u64 (yp.va : Int))) (by rfl) (fun x hx => by have hq := ext_cell hx (y0); simp [go_sem, execOp, Act.eval, hq]) ?_; intro K hK; simp only [Act.put, List.setIfInBounds_toArray, List.set_cons_zero, List.set_cons_succ]; refine hK _ ?_; clear hK K
              (repeat (first | (refine seq_skip (by rfl) ?_; intro K hK; simp only [Act.put, List.setIfInBounds_toArray, List.set_cons_zero, List.set_cons_succ]; refine hK _ ?_; clear hK K) | (refine seq_skipc (by rfl) ?_; intro K hK; simp only [Act.put, List.setIfInBounds_toArray, List.set_cons_zero, List.set_cons_succ]; refine hK _ ?_; clear hK K) | (refine seq_read (by rfl) (by rfl) ?_; intro K hK; go_big_quiet_op; first | go_big_quiet_on | (refine ⟨_, fun _ _ => rfl, ?_⟩; go_big_quiet_on))))
              refine seq_value ((.int .u64 (xp.va : Int))) (by rfl) (fun x hx => by have hq := ext_cell hx (h9.pg_va); simp [go_sem, execOp, Act.eval, hq]) ?_; intro K hK; simp only [Act.put, List.setIfInBounds_toArray, List.set_cons_zero, List.set_cons_succ]; refine hK _ ?_; clear hK K
              (repeat (first | (refine seq_skip (by rfl) ?_; intro K hK; simp only [Act.put, List.setIfInBounds_toArray, List.set_cons_zero, List.set_cons_succ]; refine hK _ ?_; clear hK K) | (refine seq_skipc (by rfl) ?_; intro K hK; simp only [Act.put, List.setIfInBounds_toArray, List.set_cons_zero, List.set_cons_succ]; refine hK _ ?_; clear hK K) | (refine seq_read (by rfl) (by rfl) ?_; intro K hK; go_big_quiet_op; first | go_big_quiet_on | (refine ⟨_, fun _ _ => rfl, ?_⟩; go_big_quiet_on))))
              refine seq_value ((.int .u64 (yp.va : Int))) (by rfl) (fun x hx => by have hq := ext_cell hx (y0); simp [go_sem, execOp, Act.eval, hq]) ?_; intro K hK; simp only [Act.put, List.setIfInBounds_toArray, List.set_cons_zero, List.set_cons_succ]; refine hK _ ?_; clear hK K
              (repeat (first | (refine seq_skip (by rfl) ?_; intro K hK; simp only [Act.put, List.setIfInBounds_toArray, List.set_cons_zero, List.set_cons_succ]; refine hK _ ?_; clear hK K) | (refine seq_skipc (by rfl) ?_; intro K hK; simp only [Act.put, List.setIfInBounds_toArray, List.set_cons_zero, List.set_cons_succ]; refine hK _ ?_; clear hK K) | (refine seq_read (by rfl) (by rfl) ?_; intro K hK; go_big_quiet_op; first | go_big_quiet_on | (refine ⟨_, fun _ _ => rfl, ?_⟩; go_big_quiet_on))))
              refine seq_value ((.int .i64 yp.lv)) (by rfl) (fun x hx => by have hq := ext_cell hx (y2); simp [go_sem, execOp, Act.eval, hq]) ?_; intro K hK; simp only [Act.put, List.setIfInBounds_toArray, List.set_cons_zero, List.set_cons_succ]; refine hK _ ?_; clear hK K
              refine seq_call (calls_ext (csz _)) rfl Tryd.func23 (by kernel_rfl) (by kernel_rfl) (by rfl) (by rfl) ?_; intro K hK; rintro e w' ⟨rfl, hE⟩; refine ⟨_, rfl, hE, ?_⟩; simp only [Act.put, List.setIfInBounds_toArray, List.set_cons_zero, List.set_cons_succ]; refine hK _ _ ?_; clear hK K; (try replace hb := hb.ext hE); (try replace hz := hz.ext hE); (try replace hm := hm.ext hE); (try replace h1 := h1.ext hE); (try replace h2 := h2.ext hE); (try replace h3 := h3.ext hE); (try replace h4 := h4.ext hE); (try replace h5 := h5.ext hE); (try replace h9 := h9.ext hE); (try replace HE := Lib.hid (HE.out.trans hE)); (try replace r0 := r0.ext hE); (try replace r1 := r1.ext hE); (try replace r2 := r2.ext hE); (try replace r3 := r3.ext hE); (try replace r4 := r4.ext hE); (try replace r5 := r5.ext hE); (try replace r6 := r6.ext hE); clear hE
              (repeat (first | (refine seq_skip (by rfl) ?_; intro K hK; simp only [Act.put, List.setIfInBounds_toArray, List.set_cons_zero, List.set_cons_succ]; refine hK _ ?_; clear hK K) | (refine seq_skipc (by rfl) ?_; intro K hK; simp only [Act.put, List.setIfInBounds_toArray, List.set_cons_zero, List.set_cons_succ]; refine hK _ ?_; clear hK K) | (refine seq_read (by rfl) (by rfl) ?_; intro K hK; go_big_quiet_op; first | go_big_quiet_on | (refine ⟨_, fun _ _ => rfl, ?_⟩; go_big_quiet_on))))
              refine seq_done ?_
              clear csz hz hz2 dl1 dl2 dm1 dm2 y0 y2
              go_wp2
              go_roundw
              case rel => exact ⟨jj + 1, by omega, by go_num, h1, h9, r1, HE.out⟩
              case measure => simp [intOf]; omega
            · obtain rfl : jj = k := by omega
              go_wp2
              go_roundw
              case rel => exact ⟨jj + 1, by omega, by go_num, by rw [hnh.out]; rfl, h1, r1, HE.out⟩
              case measure => simp [intOf]; omega
      · have da1 : decide ((xp.va : Int) ≤ (a : Int)) = false := by simp; omega
        have da2 : decide (xp.va ≤ a) = false := by simp; omega
        have db1 := da1
        have db2 := da2
        rw [hH, da2] at hnx
        have v0 : _ = some (Value.int .u64 (xp.va : Int)) := h9.pg_va
        have hnh := Lib.hid hnx
        clear hnx hH
        go_wp2_with fail
        clear v0 da1 da2 db1 db2
        go_loopw [16] (fun jv wr2 => ∃ jj : Nat, jj ≤ k ∧ jv = .int .i64 jj ∧ Blk wr2 w.heap.size 25 #[.int .u64 (S : Int), .slice B L.length d] ∧ Blk wr2 wr.heap.size 49 (pgC xp) ∧ RowV KG wr2 (some ⟨b1, o1, none⟩) E cE ∧ Ext w wr2) (fun jv _ => (k - intOf jv).toNat)
        case atStart => exact ⟨0, by omega, rfl, h1, h9, r1, HE.out⟩
        case round =>
          clear h1 h9 r1 HE
          obtain ⟨jj, hjj, rfl, h1, h9, r1, hE⟩ := hrel
          have HE := Lib.hid hE
          clear hE
          by_cases hjl : jj < k
          · have e2 : wr.rangeAt b1 (o1 + jj * 8) (pgC (E.getD jj KG.d)).toList := r1.at (by rw [HnE.out]; omega)
            have yto := htold jj (by omega)
            have yap := hap jj hjl
            generalize E.getD jj KG.d = yp at *
            have y0 : wr.cell? ⟨b1, o1 + jj * 8, none⟩ = some (.int .u64 (yp.va : Int)) := e2 0 _ (by rw [Array.getElem?_toList]; exact pgC_va yp)
            have y2 : wr.cell? ⟨b1, o1 + jj * 8 + 2, none⟩ = some (.int .i64 yp.lv) := e2 2 _ (by rw [Array.getElem?_toList]; exact pgC_lv yp)
            have csz := fun W => rsize5_c yp.lv yto.lv.1 yto.lv.2 W
            have hylas := yto.las
            have hyla64 := yto.las64
            have hyva := yto.va
            have hyp := sizI_pos yto.lv.1 yto.lv.2
            have hlx2 := hlx.out
            have dl1 : decide ((yp.va : Int) ≤ (last : Int)) = true := by simp; omega
            have dl2 : decide (yp.va ≤ last) = true := by simp; omega
            clear hlx2
            obtain ⟨zy, hz⟩ : ∃ z : Int, IntKind.u64.wrap ((yp.va : Int) + sizI yp.lv) = z := ⟨_, rfl⟩
            have hz2 : IntKind.u64.wrap (zy - 1) = ((lastN yp : Nat) : Int) := by
              rw [← hz, IntKind.wrap_u64, IntKind.wrap_u64]; omega
            have dm1 : decide ((xp.va : Int) ≤ ((lastN yp : Nat) : Int)) = false := by simp; omega
            have dm2 : decide (xp.va ≤ lastN yp) = false := by simp; omega
            generalize lastN yp = lasty at *
            generalize sizI yp.lv = szy at *
            clear yto yap e2 hylas hyp
            have hjn : (jj : Int) < (nE : Int) := by omega
            have hjk : (jj : Int) < (k : Int) := by omega
            go_wp2_with fail
            (try replace hb := Blk.drew hb); (try replace hz := Blk.drew hz); (try replace hm := Blk.drew hm); (try replace h1 := Blk.drew h1); (try replace h2 := Blk.drew h2); (try replace h3 := Blk.drew h3); (try replace h4 := Blk.drew h4); (try replace h5 := Blk.drew h5); (try replace h9 := Blk.drew h9); replace HE := Lib.hid HE.out.drew
            replace r1 := r1.ext (Ext.refl _).drew
            replace y0 : wr.drew.cell? _ = _ := y0
            replace y2 : wr.drew.cell? _ = _ := y2
            refine wp_region_seq [(0, false), (1, false), (2, false), (3, false), (4, false), (5, false), (6, false), (7, false), (8, false), (9, false), (10, false), (11, false), (12, false), (13, false), (14, false), (15, false), (16, false), (17, false), (18, false), (19, false), (20, true), (21, false), (22, false), (23, false), (24, false)] Ext (by kernel_rfl) (by kernel_rfl) Ext.refl (fun _ _ _ => Ext.trans) ?_; simp only [List.map, nth_z, nth_s]
            (try simp only [Act.put, List.setIfInBounds_toArray, List.set_cons_zero, List.set_cons_succ])
            (repeat (first | (refine seq_skip (by rfl) ?_; intro K hK; simp only [Act.put, List.setIfInBounds_toArray, List.set_cons_zero, List.set_cons_succ]; refine hK _ ?_; clear hK K) | (refine seq_skipc (by rfl) ?_; intro K hK; simp only [Act.put, List.setIfInBounds_toArray, List.set_cons_zero, List.set_cons_succ]; refine hK _ ?_; clear hK K) | (refine seq_read (by rfl) (by rfl) ?_; intro K hK; go_big_quiet_op; first | go_big_quiet_on | (refine ⟨_, fun _ _ => rfl, ?_⟩; go_big_quiet_on))))
            refine seq_value ((.int .u64 (yp.va : Int))) (by rfl) (fun x hx => by have hq := ext_cell hx (y0); simp [go_sem, execOp, Act.eval, hq]) ?_; intro K hK; simp only [Act.put, List.setIfInBounds_toArray, List.set_cons_zero, List.set_cons_succ]; refine hK _ ?_; clear hK K
            (repeat (first | (refine seq_skip (by rfl) ?_; intro K hK; simp only [Act.put, List.setIfInBounds_toArray, List.set_cons_zero, List.set_cons_succ]; refine hK _ ?_; clear hK K) | (refine seq_skipc (by rfl) ?_; intro K hK; simp only [Act.put, List.setIfInBounds_toArray, List.set_cons_zero, List.set_cons_succ]; refine hK _ ?_; clear hK K) | (refine seq_read (by rfl) (by rfl) ?_; intro K hK; go_big_quiet_op; first | go_big_quiet_on | (refine ⟨_, fun _ _ => rfl, ?_⟩; go_big_quiet_on))))
            refine seq_value ((.int .u64 (xp.va : Int))) (by rfl) (fun x hx => by have hq := ext_cell hx (h9.pg_va); simp [go_sem, execOp, Act.eval, hq]) ?_; intro K hK; simp only [Act.put, List.setIfInBounds_toArray, List.set_cons_zero, List.set_cons_succ]; refine hK _ ?_; clear hK K
            (repeat (first | (refine seq_skip (by rfl) ?_; intro K hK; simp only [Act.put, List.setIfInBounds_toArray, List.set_cons_zero, List.set_cons_succ]; refine hK _ ?_; clear hK K) | (refine seq_skipc (by rfl) ?_; intro K hK; simp only [Act.put, List.setIfInBounds_toArray, List.set_cons_zero, List.set_cons_succ]; refine hK _ ?_; clear hK K) | (refine seq_read (by rfl) (by rfl) ?_; intro K hK; go_big_quiet_op; first | go_big_quiet_on | (refine ⟨_, fun _ _ => rfl, ?_⟩; go_big_quiet_on))))
            refine seq_value ((.int .u64 (yp.va : Int))) (by rfl) (fun x hx => by have hq := ext_cell hx (y0); simp [go_sem, execOp, Act.eval, hq]) ?_; intro K hK; simp only [Act.put, List.setIfInBounds_toArray, List.set_cons_zero, List.set_cons_succ]; refine hK _ ?_; clear hK K
            (repeat (first | (refine seq_skip (by rfl) ?_; intro K hK; simp only [Act.put, List.setIfInBounds_toArray, List.set_cons_zero, List.set_cons_succ]; refine hK _ ?_; clear hK K) | (refine seq_skipc (by rfl) ?_; intro K hK; simp only [Act.put, List.setIfInBounds_toArray, List.set_cons_zero, List.set_cons_succ]; refine hK _ ?_; clear hK K) | (refine seq_read (by rfl) (by rfl) ?_; intro K hK; go_big_quiet_op; first | go_big_quiet_on | (refine ⟨_, fun _ _ => rfl, ?_⟩; go_big_quiet_on))))
            refine seq_value ((.int .i64 yp.lv)) (by rfl) (fun x hx => by have hq := ext_cell hx (y2); simp [go_sem, execOp, Act.eval, hq]) ?_; intro K hK; simp only [Act.put, List.setIfInBounds_toArray, List.set_cons_zero, List.set_cons_succ]; refine hK _ ?_; clear hK K
            refine seq_call (calls_ext (csz _)) rfl Tryd.func23 (by kernel_rfl) (by kernel_rfl) (by rfl) (by rfl) ?_; intro K hK; rintro e w' ⟨rfl, hE⟩; refine ⟨_, rfl, hE, ?_⟩; simp only [Act.put, List.setIfInBounds_toArray, List.set_cons_zero, List.set_cons_succ]; refine hK _ _ ?_; clear hK K; (try replace hb := hb.ext hE); (try replace hz := hz.ext hE); (try replace hm := hm.ext hE); (try replace h1 := h1.ext hE); (try replace h2 := h2.ext hE); (try replace h3 := h3.ext hE); (try replace h4 := h4.ext hE); (try replace h5 := h5.ext hE); (try replace h9 := h9.ext hE); (try replace HE := Lib.hid (HE.out.trans hE)); (try replace r0 := r0.ext hE); (try replace r1 := r1.ext hE); (try replace r2 := r2.ext hE); (try replace r3 := r3.ext hE); (try replace r4 := r4.ext hE); (try replace r5 := r5.ext hE); (try replace r6 := r6.ext hE); clear hE
            (repeat (first | (refine seq_skip (by rfl) ?_; intro K hK; simp only [Act.put, List.setIfInBounds_toArray, List.set_cons_zero, List.set_cons_succ]; refine hK _ ?_; clear hK K) | (refine seq_skipc (by rfl) ?_; intro K hK; simp only [Act.put, List.setIfInBounds_toArray, List.set_cons_zero, List.set_cons_succ]; refine hK _ ?_; clear hK K) | (refine seq_read (by rfl) (by rfl) ?_; intro K hK; go_big_quiet_op; first | go_big_quiet_on | (refine ⟨_, fun _ _ => rfl, ?_⟩; go_big_quiet_on))))
            refine seq_done ?_
            clear csz hz hz2 dl1 dl2 dm1 dm2 y0 y2
            go_wp2
            go_roundw
            case rel => exact ⟨jj + 1, by omega, by go_num, h1, h9, r1, HE.out⟩
            case measure => simp [intOf]; omega
          · obtain rfl : jj = k := by omega
            go_wp2
            go_roundw
            case rel => exact ⟨jj + 1, by omega, by go_num, by rw [hnh.out]; rfl, h1, r1, HE.out⟩
            case measure => simp [intOf]; omega
    · have da1 := True.intro
      have da2 := True.intro
      have db1 := True.intro
      have db2 := True.intro
      rw [hH] at hnx
      have v0 : _ = some (Value.int .u64 (xp.va : Int)) := h9.pg_va
      have hnh := Lib.hid hnx
      clear hnx hH
      go_wp2_with fail
      clear v0 da1 da2 db1 db2
      go_loopw [16] (fun jv wr2 => ∃ jj : Nat, jj ≤ k ∧ jv = .int .i64 jj ∧ Blk wr2 w.heap.size 25 #[.int .u64 (S : Int), .slice B L.length d] ∧ Blk wr2 wr.heap.size 49 (pgC xp) ∧ RowV KG wr2 (some ⟨b1, o1, none⟩) E cE ∧ Ext w wr2) (fun jv _ => (k - intOf jv).toNat)
      case atStart => exact ⟨0, by omega, rfl, h1, h9, r1, HE.out⟩
      case round =>
        clear h1 h9 r1 HE
        obtain ⟨jj, hjj, rfl, h1, h9, r1, hE⟩ := hrel
        have HE := Lib.hid hE
        clear hE
        by_cases hjl : jj < k
        · have e2 : wr.rangeAt b1 (o1 + jj * 8) (pgC (E.getD jj KG.d)).toList := r1.at (by rw [HnE.out]; omega)
          have yto := htold jj (by omega)
          have yap := hap jj hjl
          generalize E.getD jj KG.d = yp at *
          have y0 : wr.cell? ⟨b1, o1 + jj * 8, none⟩ = some (.int .u64 (yp.va : Int)) := e2 0 _ (by rw [Array.getElem?_toList]; exact pgC_va yp)
          have y2 : wr.cell? ⟨b1, o1 + jj * 8 + 2, none⟩ = some (.int .i64 yp.lv) := e2 2 _ (by rw [Array.getElem?_toList]; exact pgC_lv yp)
          have csz := fun W => rsize5_c yp.lv yto.lv.1 yto.lv.2 W
          have hylas := yto.las
          have hyla64 := yto.las64
          have hyva := yto.va
          have hyp := sizI_pos yto.lv.1 yto.lv.2
          have hlx2 := hlx.out
          have dl1 : decide ((yp.va : Int) ≤ (last : Int)) = true := by simp; omega
          have dl2 : decide (yp.va ≤ last) = true := by simp; omega
          clear hlx2
          obtain ⟨zy, hz⟩ : ∃ z : Int, IntKind.u64.wrap ((yp.va : Int) + sizI yp.lv) = z := ⟨_, rfl⟩
          have hz2 : IntKind.u64.wrap (zy - 1) = ((lastN yp : Nat) : Int) := by
            rw [← hz, IntKind.wrap_u64, IntKind.wrap_u64]; omega
          have dm1 : decide ((xp.va : Int) ≤ ((lastN yp : Nat) : Int)) = false := by simp; omega
          have dm2 : decide (xp.va ≤ lastN yp) = false := by simp; omega
          generalize lastN yp = lasty at *
          generalize sizI yp.lv = szy at *
          clear yto yap e2 hylas hyp
          have hjn : (jj : Int) < (nE : Int) := by omega
          have hjk : (jj : Int) < (k : Int) := by omega
          go_wp2_with fail
          (try replace hb := Blk.drew hb); (try replace hz := Blk.drew hz); (try replace hm := Blk.drew hm); (try replace h1 := Blk.drew h1); (try replace h2 := Blk.drew h2); (try replace h3 := Blk.drew h3); (try replace h4 := Blk.drew h4); (try replace h5 := Blk.drew h5); (try replace h9 := Blk.drew h9); replace HE := Lib.hid HE.out.drew
          replace r1 := r1.ext (Ext.refl _).drew
          replace y0 : wr.drew.cell? _ = _ := y0
          replace y2 : wr.drew.cell? _ = _ := y2
          refine wp_region_seq [(0, false), (1, false), (2, false), (3, false), (4, false), (5, false), (6, false), (7, false), (8, false), (9, false), (10, false), (11, false), (12, false), (13, false), (14, false), (15, false), (16, false), (17, false), (18, false), (19, false), (20, true), (21, false), (22, false), (23, false), (24, false)] Ext (by kernel_rfl) (by kernel_rfl) Ext.refl (fun _ _ _ => Ext.trans) ?_; simp only [List.map, nth_z, nth_s]
          (try simp only [Act.put, List.setIfInBounds_toArray, List.set_cons_zero, List.set_cons_succ])
          (repeat (first | (refine seq_skip (by rfl) ?_; intro K hK; simp only [Act.put, List.setIfInBounds_toArray, List.set_cons_zero, List.set_cons_succ]; refine hK _ ?_; clear hK K) | (refine seq_skipc (by rfl) ?_; intro K hK; simp only [Act.put, List.setIfInBounds_toArray, List.set_cons_zero, List.set_cons_succ]; refine hK _ ?_; clear hK K) | (refine seq_read (by rfl) (by rfl) ?_; intro K hK; go_big_quiet_op; first | go_big_quiet_on | (refine ⟨_, fun _ _ => rfl, ?_⟩; go_big_quiet_on))))
          refine seq_value ((.int .u64 (yp.va : Int))) (by rfl) (fun x hx => by have hq := ext_cell hx (y0); simp [go_sem, execOp, Act.eval, hq]) ?_; intro K hK; simp only [Act.put, List.setIfInBounds_toArray, List.set_cons_zero, List.set_cons_succ]; refine hK _ ?_; clear hK K
          (repeat (first | (refine seq_skip (by rfl) ?_; intro K hK; simp only [Act.put, List.setIfInBounds_toArray, List.set_cons_zero, List.set_cons_succ]; refine hK _ ?_; clear hK K) | (refine seq_skipc (by rfl) ?_; intro K hK; simp only [Act.put, List.setIfInBounds_toArray, List.set_cons_zero, List.set_cons_succ]; refine hK _ ?_; clear hK K) | (refine seq_read (by rfl) (by rfl) ?_; intro K hK; go_big_quiet_op; first | go_big_quiet_on | (refine ⟨_, fun _ _ => rfl, ?_⟩; go_big_quiet_on))))
          refine seq_value ((.int .u64 (xp.va : Int))) (by rfl) (fun x hx => by have hq := ext_cell hx (h9.pg_va); simp [go_sem, execOp, Act.eval, hq]) ?_; intro K hK; simp only [Act.put, List.setIfInBounds_toArray, List.set_cons_zero, List.set_cons_succ]; refine hK _ ?_; clear hK K
          (repeat (first | (refine seq_skip (by rfl) ?_; intro K hK; simp only [Act.put, List.setIfInBounds_toArray, List.set_cons_zero, List.set_cons_succ]; refine hK _ ?_; clear hK K) | (refine seq_skipc (by rfl) ?_; intro K hK; simp only [Act.put, List.setIfInBounds_toArray, List.set_cons_zero, List.set_cons_succ]; refine hK _ ?_; clear hK K) | (refine seq_read (by rfl) (by rfl) ?_; intro K hK; go_big_quiet_op; first | go_big_quiet_on | (refine ⟨_, fun _ _ => rfl, ?_⟩; go_big_quiet_on))))
          refine seq_value ((.int .u64 (yp.va : Int))) (by rfl) (fun x hx => by have hq := ext_cell hx (y0); simp [go_sem, execOp, Act.eval, hq]) ?_; intro K hK; simp only [Act.put, List.setIfInBounds_toArray, List.set_cons_zero, List.set_cons_succ]; refine hK _ ?_; clear hK K
          (repeat (first | (refine seq_skip (by rfl) ?_; intro K hK; simp only [Act.put, List.setIfInBounds_toArray, List.set_cons_zero, List.set_cons_succ]; refine hK _ ?_; clear hK K) | (refine seq_skipc (by rfl) ?_; intro K hK; simp only [Act.put, List.setIfInBounds_toArray, List.set_cons_zero, List.set_cons_succ]; refine hK _ ?_; clear hK K) | (refine seq_read (by rfl) (by rfl) ?_; intro K hK; go_big_quiet_op; first | go_big_quiet_on | (refine ⟨_, fun _ _ => rfl, ?_⟩; go_big_quiet_on))))
          refine seq_value ((.int .i64 yp.lv)) (by rfl) (fun x hx => by have hq := ext_cell hx (y2); simp [go_sem, execOp, Act.eval, hq]) ?_; intro K hK; simp only [Act.put, List.setIfInBounds_toArray, List.set_cons_zero, List.set_cons_succ]; refine hK _ ?_; clear hK K
          refine seq_call (calls_ext (csz _)) rfl Tryd.func23 (by kernel_rfl) (by kernel_rfl) (by rfl) (by rfl) ?_; intro K hK; rintro e w' ⟨rfl, hE⟩; refine ⟨_, rfl, hE, ?_⟩; simp only [Act.put, List.setIfInBounds_toArray, List.set_cons_zero, List.set_cons_succ]; refine hK _ _ ?_; clear hK K; (try replace hb := hb.ext hE); (try replace hz := hz.ext hE); (try replace hm := hm.ext hE); (try replace h1 := h1.ext hE); (try replace h2 := h2.ext hE); (try replace h3 := h3.ext hE); (try replace h4 := h4.ext hE); (try replace h5 := h5.ext hE); (try replace h9 := h9.ext hE); (try replace HE := Lib.hid (HE.out.trans hE)); (try replace r0 := r0.ext hE); (try replace r1 := r1.ext hE); (try replace r2 := r2.ext hE); (try replace r3 := r3.ext hE); (try replace r4 := r4.ext hE); (try replace r5 := r5.ext hE); (try replace r6 := r6.ext hE); clear hE
          (repeat (first | (refine seq_skip (by rfl) ?_; intro K hK; simp only [Act.put, List.setIfInBounds_toArray, List.set_cons_zero, List.set_cons_succ]; refine hK _ ?_; clear hK K) | (refine seq_skipc (by rfl) ?_; intro K hK; simp only [Act.put, List.setIfInBounds_toArray, List.set_cons_zero, List.set_cons_succ]; refine hK _ ?_; clear hK K) | (refine seq_read (by rfl) (by rfl) ?_; intro K hK; go_big_quiet_op; first | go_big_quiet_on | (refine ⟨_, fun _ _ => rfl, ?_⟩; go_big_quiet_on))))
          refine seq_done ?_
          clear csz hz hz2 dl1 dl2 dm1 dm2 y0 y2
          go_wp2
          go_roundw
          case rel => exact ⟨jj + 1, by omega, by go_num, h1, h9, r1, HE.out⟩
          case measure => simp [intOf]; omega
        · obtain rfl : jj = k := by omega
          go_wp2
          go_roundw
          case rel => exact ⟨jj + 1, by omega, by go_num, by rw [hnh.out]; rfl, h1, r1, HE.out⟩
          case measure => simp [intOf]; omega
end Go.Proofs.YtcllbidhjggjiaaDoor
