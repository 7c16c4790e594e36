/- TlbOne, over the package's contracts (TlbC). -/
import Derived.Test.YtdbflmceomnmlaaDoorLaw14b
namespace Go.Proofs.YtdbflmceomnmlaaDoor
open Go.ChangeShapes Go.WideShapes Go.ChangeAt Go.RowKit
set_option linter.unusedVariables false
set_option linter.unusedSimpArgs false

/-- what one change leaves of a buffer -/
structure OneT (L T : List St) : Prop where
  len : T.length = L.length
  right : rightT T = true
  all : (allT T).length ≤ (allT L).length + 1
  one : ∃ x, ∀ k, k < L.length → k ≠ x → sT T k = sT L k
theorem one_of {L : List St} {i : Nat} (hi : i < L.length) {s : St} (hr : rightT (L.set i s) = true) (hc : cntW s.ws ≤ cntW (sT L i).ws + 1) : OneT L (L.set i s) := by
  refine ⟨by rw [List.length_set], hr, ?_, i, fun k hk hne => ?_⟩
  · have := all_set hi s
    omega
  · rw [sT_set hi, if_neg hne]
theorem one_put {L : List St} (hrt : rightT L = true) (hp : 0 < L.length) {e : En} (hm : mayE e = true) (v : Int) : OneT L (putT e v L) := by
  have hx := ix_lt hp (e.vp : Int) e.l
  have h := rt_put hrt hm v
  rw [putT_pos hp] at h ⊢
  exact one_of hx h (cnt_putS (right_t (rt_s hrt hx)) e v)
theorem one_use {L : List St} (hrt : rightT L = true) {i : Nat} (hi : i < L.length) (y : Nat) : OneT L (useT L i y) := by
  have h := rt_use hrt hi y
  rw [← useT_eq] at h ⊢
  exact one_of hi h (Nat.le_succ _)
theorem drop_cnt {L : List St} {i y : Nat} (hi : i < L.length) (hy : y < 4) : (allT (dropT L i y)).length + ((sT L i).ws.at y).v.toNat = (allT L).length := by
  rw [← dropT_eq]
  have h1 := all_set hi ((sT L i).put y e0)
  have h2 := cnt_put (sT L i).ws hy e0
  rw [e0_v] at h2
  have h3 : cntW ((sT L i).put y e0).ws = cntW ((sT L i).ws.put y e0) := rfl
  rw [h3] at h1
  simp only [Bool.toNat_false] at h2
  omega
theorem one_drop {L : List St} (hrt : rightT L = true) {i y : Nat} (hi : i < L.length) (hy : y < 4) : OneT L (dropT L i y) := by
  have h := rt_drop hrt hi hy
  have h2 := drop_cnt hi hy
  refine ⟨by rw [← dropT_eq, List.length_set], h, by omega, i, fun k hk hne => ?_⟩
  rw [← dropT_eq, sT_set hi, if_neg hne]
theorem drop_gone {L : List St} {i y : Nat} (hi : i < L.length) (hy : y < 4) : ((sT (dropT L i y) i).ws.at y).v = false := by
  rw [← dropT_eq, sT_set hi, if_pos rfl]
  show (((sT L i).ws.put y e0).at y).v = false
  rw [at_put hy hy, if_pos rfl, e0_v]
section
variable {α : Type} {K : Wide α}
/-- one element behind a row that the call made -/
theorem run_append_one (hK : WideOk K) (w : World) (base : Nat) (v : Value) (M : List α) (hown : w.ownsRow base K.e K.sz v M.length (K.flat M)) (x : α) (hn : (M.length + 1) * K.by' ≤ 140737488355328) (hm : M.length + 1 ≤ maxLen) (hb : base ≤ w.heap.size) (ty : TypeId) :
    ∃ v' w', (Builtin.append_ #[K.sl, K.sl] ty #[v, .slice (some ⟨w.heap.size, 0, none⟩) 1 1]).run Tryd.prog (w.alloc (.cells (K.cf x) K.e)) = .ok v' w' ∧
      w'.ownsRow base K.e K.sz v' (M ++ [x]).length (K.flat (M ++ [x])) ∧ (w.alloc (.cells (K.cf x) K.e)).grownBy w' v.ownBlock := by
  have hblk := Blk.new w K.e (K.cf x)
  have hrow : RowV K (w.alloc (.cells (K.cf x) K.e)) (some ⟨w.heap.size, 0, none⟩) [x] 1 := by
    refine ⟨fun _ => ⟨w.heap.size, 0, rfl, hblk.lt, fun i hi => ?_⟩, (fun h => by cases h), (by simp), (by omega)⟩
    obtain rfl : i = 0 := by simp at hi; omega
    have := hblk.part 0 (ds := K.cf x) (by rw [Nat.zero_add]; simp)
    simpa using this
  have hown1 := World.ownsRow.alloc hown (.cells (K.cf x) K.e)
  obtain ⟨v', w', h1, h2, h3, _⟩ := run_append_row hK (w.alloc (.cells (K.cf x) K.e)) base v M.length (K.flat M) hown1 (some ⟨w.heap.size, 0, none⟩) [x] 1 hrow (by simpa using hn) (by simpa using hm) (by simp; omega) ty
  exact ⟨v', w', h1, by rw [flat_app, List.length_append]; exact h2, h3⟩
end
theorem grown_gap {w w' : World} {g : Nat} (h : w.grownBy w' (some g)) : Gap g (g + 1) w w' := ⟨h.size, fun b hb hn => h.block b hb (fun e => by injection e with e; omega)⟩
theorem RowV.gap {α : Type} {K : Wide α} {lo hi : Nat} {w w' : World} {A : Option Addr} {L : List α} {c : Nat} (hE : Gap lo hi w w') (h : RowV K w A L c) (hn : ∀ a, A = Option.some a → a.block < lo ∨ hi ≤ a.block) : RowV K w' A L c := by
  refine ⟨fun hp => ?_, h.2⟩
  obtain ⟨b, off, rfl, hlt, hr⟩ := h.1 hp
  exact ⟨b, off, rfl, Nat.lt_of_lt_of_le hlt hE.1, fun i hi => rgx_gap hE (hr i hi) (hn _ rfl)⟩
theorem grown_ext {w x w' : World} {g : Nat} (h : Ext w x) (hg : x.grownBy w' (some g)) (hw : w.heap.size ≤ g) : Ext w w' := Below.grown h hg h.size (fun k hk => by injection hk with hk; omega)
/-- a row of sets isn't a row of slices -/
theorem row_ne {w : World} {A : Option Addr} {L : List St} {c g : Nat} {t : TypeId} {B D : Option Addr} {n n' d d' : Nat} (hr : RowV KS w A L c) (hp : 0 < L.length) (hb : Blk w g t #[.slice B n d, .slice D n' d']) : ∀ a, A = Option.some a → a.block < g ∨ g + 1 ≤ a.block := by
  intro a ha
  obtain ⟨b, off, rfl, -, hx⟩ := hr.some hp
  injection ha with ha
  subst ha
  show b < g ∨ g + 1 ≤ b
  rcases Nat.lt_trichotomy b g with h | h | h
  · exact .inl h
  · exfalso
    subst h
    have h1 := rng_cell (rng_way (show w.rangeAt b (off + 0 * 45) (stC (L.getD 0 s0)).toList from hx 0 hp) (show 0 < 4 by decide)) 0 (enC_v _)
    simp only [Nat.zero_mul, Nat.add_zero] at h1
    have h2 := hb.cell off
    rw [h1] at h2
    match off, h2 with
    | 0, h2 => cases h2
    | 1, h2 => cases h2
    | k + 2, h2 => simp at h2
  · exact .inr h
/-- buffers in a row: each a slice -/
def KT : Wide (Option Addr × Nat × Nat) := ⟨24, 54, 1, 24, fun x => #[.slice x.1 x.2.1 x.2.2], (none, 0, 0)⟩
theorem kt_ok : WideOk KT := ⟨fun _ => rfl, fun z => by simp [KT, Value.oneCell'], by decide, Tryd.underlying54, ⟨.agg #[.slice none 0 0], by kernel_rfl, rfl⟩⟩
/-- how many sets have changed so far -/
def Ch (x k ch : Nat) : Prop := ch = 0 ∨ (ch = 1 ∧ x < k)
theorem ch_0 (x : Nat) : Ch x 0 0 := .inl rfl
theorem ch_same {x k ch : Nat} (h : Ch x k ch) : Ch x (k + 1) ch := by unfold Ch at *; omega
theorem ch_new {x k ch : Nat} (h : Ch x k ch) (hx : k = x) : Ch x (k + 1) (ch + 1) := by unfold Ch at *; omega
theorem ch_le {x k ch : Nat} (h : Ch x k ch) : ch ≤ 1 := by unfold Ch at h; omega
attribute [irreducible] Ch
set_option maxRecDepth 100000 in
set_option maxHeartbeats 8000000 in
theorem TlbOne_w (C : TlbC) (A : Option Addr) (L : List St) (c : Nat) (e : En) (v : Int) (q p : Nat) (he : e.ok) (q1 : q < 256) (p1 : p < 256) (w : World) (hr : RowV KS w A L c) (hT : Lays w) :
    Calls Tryd.prog 5 #[.agg #[.slice A L.length c], .agg (enC e), .int .i64 v, .int .u8 (q : Int), .int .u8 (p : Int)] w fun r w' => r = .returned (.bool true) ∧ Ext w w' := by
  have h1 : Blk ((w.alloc (.cells #[.slice A L.length c] 24)).alloc (.cells (enC e) 29)) w.heap.size 24 #[.slice A L.length c] := (Blk.new w _ _).alloc _
  have h2 : Blk ((w.alloc (.cells #[.slice A L.length c] 24)).alloc (.cells (enC e) 29)) (w.heap.size + 1) 29 (enC e) := blk_at (by simp)
  have HE := Lib.hid (((Ext.refl w).alloc (.cells #[.slice A L.length c] 24)).alloc (.cells (enC e) 29))
  have hrow : ∀ W : World, Ext w W → RowV KS W A L c := fun W h => hr.ext h
  have hLm : L.length ≤ 9223372036854775807 := Nat.le_trans hr.2.2.1 hr.2.2.2
  have crr := fun w h => rright14_c A L c hLm w h
  have ral := fun (A : Option Addr) (M : List St) (c : Nat) (h : M.length ≤ 1000) w hr => rall14_c A M c h w hr
  clear hr
  cases hrt : rightT L
  · rw [hrt] at crr
    go_enter Tryd.func5, Tryd.ntmps5
    go_wp2_with (fail); refine (C.awake _ (hT.ext HE.out)).mono ?_; rintro e w' ⟨rfl, hE⟩; (try replace hb := hb.ext hE); (try replace hz := hz.ext hE); (try replace hm := hm.ext hE); (try replace h1 := h1.ext hE); (try replace h2 := h2.ext hE); (try replace h5 := h5.ext hE); (try replace h7 := h7.ext hE); (try replace k1 := k1.ext hE); (try replace HE := Lib.hid (HE.out.trans hE)); (try replace HF := Lib.hid (HF.out.trans hE))
    clear hE
    go_wp2_with ((refine wpList_load_blk (by rfl) 24 _ rfl rfl (by first | exact h1 | exact h2 | exact h5 | exact h7 | exact k1 | exact hb | exact hz) Tryd.underlying24 rfl (by kernel_rfl) ?_)); refine (crr _ (hrow _ HE.out)).mono ?_; rintro e w' ⟨rfl, hE⟩; (try replace hb := hb.ext hE); (try replace hz := hz.ext hE); (try replace hm := hm.ext hE); (try replace h1 := h1.ext hE); (try replace h2 := h2.ext hE); (try replace h5 := h5.ext hE); (try replace h7 := h7.ext hE); (try replace k1 := k1.ext hE); (try replace HE := Lib.hid (HE.out.trans hE)); (try replace HF := Lib.hid (HF.out.trans hE))
    clear hE
    go_wp2_with ((first | (refine wpList_load_blk (by rfl) 29 _ rfl rfl (by first | exact h1 | exact h2 | exact h5 | exact h7 | exact k1 | exact hb | exact hz) Tryd.underlying29 rfl (by kernel_rfl) ?_) | (refine wpList_load_blk (by rfl) 24 _ rfl rfl (by first | exact h1 | exact h2 | exact h5 | exact h7 | exact k1 | exact hb | exact hz) Tryd.underlying24 rfl (by kernel_rfl) ?_))); refine (C.awake _ (hT.ext HE.out)).mono ?_; rintro e w' ⟨rfl, hE⟩; (try replace hb := hb.ext hE); (try replace hz := hz.ext hE); (try replace hm := hm.ext hE); (try replace h1 := h1.ext hE); (try replace h2 := h2.ext hE); (try replace h5 := h5.ext hE); (try replace h7 := h7.ext hE); (try replace k1 := k1.ext hE); (try replace HE := Lib.hid (HE.out.trans hE)); (try replace HF := Lib.hid (HF.out.trans hE))
    clear hE
    go_wp2
    go_ret
    exact ⟨rfl, HE.out⟩
  rw [hrt] at crr
  have rme := fun w => rmay12_c e w
  cases hm : mayE e
  · rw [hm] at rme
    go_enter Tryd.func5, Tryd.ntmps5
    go_wp2_with (fail); refine (C.awake _ (hT.ext HE.out)).mono ?_; rintro e w' ⟨rfl, hE⟩; (try replace hb := hb.ext hE); (try replace hz := hz.ext hE); (try replace hm := hm.ext hE); (try replace h1 := h1.ext hE); (try replace h2 := h2.ext hE); (try replace h5 := h5.ext hE); (try replace h7 := h7.ext hE); (try replace k1 := k1.ext hE); (try replace HE := Lib.hid (HE.out.trans hE)); (try replace HF := Lib.hid (HF.out.trans hE))
    clear hE
    go_wp2_with ((refine wpList_load_blk (by rfl) 24 _ rfl rfl (by first | exact h1 | exact h2 | exact h5 | exact h7 | exact k1 | exact hb | exact hz) Tryd.underlying24 rfl (by kernel_rfl) ?_)); refine (crr _ (hrow _ HE.out)).mono ?_; rintro e w' ⟨rfl, hE⟩; (try replace hb := hb.ext hE); (try replace hz := hz.ext hE); (try replace hm := hm.ext hE); (try replace h1 := h1.ext hE); (try replace h2 := h2.ext hE); (try replace h5 := h5.ext hE); (try replace h7 := h7.ext hE); (try replace k1 := k1.ext hE); (try replace HE := Lib.hid (HE.out.trans hE)); (try replace HF := Lib.hid (HF.out.trans hE))
    clear hE
    go_wp2_with ((refine wpList_load_blk (by rfl) 29 _ rfl rfl (by first | exact h1 | exact h2 | exact h5 | exact h7 | exact k1 | exact hb | exact hz) Tryd.underlying29 rfl (by kernel_rfl) ?_)); refine (rme _).mono ?_; rintro e w' ⟨rfl, hE⟩; (try replace hb := hb.ext hE); (try replace hz := hz.ext hE); (try replace hm := hm.ext hE); (try replace h1 := h1.ext hE); (try replace h2 := h2.ext hE); (try replace h5 := h5.ext hE); (try replace h7 := h7.ext hE); (try replace k1 := k1.ext hE); (try replace HE := Lib.hid (HE.out.trans hE)); (try replace HF := Lib.hid (HF.out.trans hE))
    clear hE
    go_wp2_with ((first | (refine wpList_load_blk (by rfl) 29 _ rfl rfl (by first | exact h1 | exact h2 | exact h5 | exact h7 | exact k1 | exact hb | exact hz) Tryd.underlying29 rfl (by kernel_rfl) ?_) | (refine wpList_load_blk (by rfl) 24 _ rfl rfl (by first | exact h1 | exact h2 | exact h5 | exact h7 | exact k1 | exact hb | exact hz) Tryd.underlying24 rfl (by kernel_rfl) ?_))); refine (C.awake _ (hT.ext HE.out)).mono ?_; rintro e w' ⟨rfl, hE⟩; (try replace hb := hb.ext hE); (try replace hz := hz.ext hE); (try replace hm := hm.ext hE); (try replace h1 := h1.ext hE); (try replace h2 := h2.ext hE); (try replace h5 := h5.ext hE); (try replace h7 := h7.ext hE); (try replace k1 := k1.ext hE); (try replace HE := Lib.hid (HE.out.trans hE)); (try replace HF := Lib.hid (HF.out.trans hE))
    clear hE
    go_wp2
    go_ret
    exact ⟨rfl, HE.out⟩
  rw [hm] at rme
  cases hv : e.v
  · skip
    go_enter Tryd.func5, Tryd.ntmps5
    go_wp2_with (fail); refine (C.awake _ (hT.ext HE.out)).mono ?_; rintro e w' ⟨rfl, hE⟩; (try replace hb := hb.ext hE); (try replace hz := hz.ext hE); (try replace hm := hm.ext hE); (try replace h1 := h1.ext hE); (try replace h2 := h2.ext hE); (try replace h5 := h5.ext hE); (try replace h7 := h7.ext hE); (try replace k1 := k1.ext hE); (try replace HE := Lib.hid (HE.out.trans hE)); (try replace HF := Lib.hid (HF.out.trans hE))
    clear hE
    go_wp2_with ((refine wpList_load_blk (by rfl) 24 _ rfl rfl (by first | exact h1 | exact h2 | exact h5 | exact h7 | exact k1 | exact hb | exact hz) Tryd.underlying24 rfl (by kernel_rfl) ?_)); refine (crr _ (hrow _ HE.out)).mono ?_; rintro e w' ⟨rfl, hE⟩; (try replace hb := hb.ext hE); (try replace hz := hz.ext hE); (try replace hm := hm.ext hE); (try replace h1 := h1.ext hE); (try replace h2 := h2.ext hE); (try replace h5 := h5.ext hE); (try replace h7 := h7.ext hE); (try replace k1 := k1.ext hE); (try replace HE := Lib.hid (HE.out.trans hE)); (try replace HF := Lib.hid (HF.out.trans hE))
    clear hE
    go_wp2_with ((refine wpList_load_blk (by rfl) 29 _ rfl rfl (by first | exact h1 | exact h2 | exact h5 | exact h7 | exact k1 | exact hb | exact hz) Tryd.underlying29 rfl (by kernel_rfl) ?_)); refine (rme _).mono ?_; rintro e w' ⟨rfl, hE⟩; (try replace hb := hb.ext hE); (try replace hz := hz.ext hE); (try replace hm := hm.ext hE); (try replace h1 := h1.ext hE); (try replace h2 := h2.ext hE); (try replace h5 := h5.ext hE); (try replace h7 := h7.ext hE); (try replace k1 := k1.ext hE); (try replace HE := Lib.hid (HE.out.trans hE)); (try replace HF := Lib.hid (HF.out.trans hE))
    clear hE
    have x0 := h2.en_v
    rw [hv] at x0
    go_wp2_with ((first | (refine wpList_load_blk (by rfl) 29 _ rfl rfl (by first | exact h1 | exact h2 | exact h5 | exact h7 | exact k1 | exact hb | exact hz) Tryd.underlying29 rfl (by kernel_rfl) ?_) | (refine wpList_load_blk (by rfl) 24 _ rfl rfl (by first | exact h1 | exact h2 | exact h5 | exact h7 | exact k1 | exact hb | exact hz) Tryd.underlying24 rfl (by kernel_rfl) ?_))); refine (C.awake _ (hT.ext HE.out)).mono ?_; rintro e w' ⟨rfl, hE⟩; (try replace hb := hb.ext hE); (try replace hz := hz.ext hE); (try replace hm := hm.ext hE); (try replace h1 := h1.ext hE); (try replace h2 := h2.ext hE); (try replace h5 := h5.ext hE); (try replace h7 := h7.ext hE); (try replace k1 := k1.ext hE); (try replace HE := Lib.hid (HE.out.trans hE)); (try replace HF := Lib.hid (HF.out.trans hE))
    clear hE
    go_wp2
    go_ret
    exact ⟨rfl, HE.out⟩
  have hl16 := rt_len hrt
  have HV := Lib.hid hv
  by_cases h0 : L.length = 0
  · have hz : ((L.length : Int) == 0) = true := by rw [h0]; rfl
    clear h0 hv
    go_enter Tryd.func5, Tryd.ntmps5
    go_wp2_with (fail); refine (C.awake _ (hT.ext HE.out)).mono ?_; rintro e w' ⟨rfl, hE⟩; (try replace hb := hb.ext hE); (try replace hz := hz.ext hE); (try replace hm := hm.ext hE); (try replace h1 := h1.ext hE); (try replace h2 := h2.ext hE); (try replace h5 := h5.ext hE); (try replace h7 := h7.ext hE); (try replace k1 := k1.ext hE); (try replace HE := Lib.hid (HE.out.trans hE)); (try replace HF := Lib.hid (HF.out.trans hE))
    clear hE
    go_wp2_with ((refine wpList_load_blk (by rfl) 24 _ rfl rfl (by first | exact h1 | exact h2 | exact h5 | exact h7 | exact k1 | exact hb | exact hz) Tryd.underlying24 rfl (by kernel_rfl) ?_)); refine (crr _ (hrow _ HE.out)).mono ?_; rintro e w' ⟨rfl, hE⟩; (try replace hb := hb.ext hE); (try replace hz := hz.ext hE); (try replace hm := hm.ext hE); (try replace h1 := h1.ext hE); (try replace h2 := h2.ext hE); (try replace h5 := h5.ext hE); (try replace h7 := h7.ext hE); (try replace k1 := k1.ext hE); (try replace HE := Lib.hid (HE.out.trans hE)); (try replace HF := Lib.hid (HF.out.trans hE))
    clear hE
    go_wp2_with ((refine wpList_load_blk (by rfl) 29 _ rfl rfl (by first | exact h1 | exact h2 | exact h5 | exact h7 | exact k1 | exact hb | exact hz) Tryd.underlying29 rfl (by kernel_rfl) ?_)); refine (rme _).mono ?_; rintro e w' ⟨rfl, hE⟩; (try replace hb := hb.ext hE); (try replace hz := hz.ext hE); (try replace hm := hm.ext hE); (try replace h1 := h1.ext hE); (try replace h2 := h2.ext hE); (try replace h5 := h5.ext hE); (try replace h7 := h7.ext hE); (try replace k1 := k1.ext hE); (try replace HE := Lib.hid (HE.out.trans hE)); (try replace HF := Lib.hid (HF.out.trans hE))
    clear hE
    have x0 := h2.en_v
    rw [HV.out] at x0
    have x1 : ∀ W : World, Blk W w.heap.size 24 #[.slice A L.length c] → W.cell? ⟨w.heap.size, 0, none⟩ = some (.slice A L.length c) := fun W h => (h.cell 0).trans rfl
    replace x1 := x1 _ h1
    go_wp2_with ((first | (refine wpList_load_blk (by rfl) 29 _ rfl rfl (by first | exact h1 | exact h2 | exact h5 | exact h7 | exact k1 | exact hb | exact hz) Tryd.underlying29 rfl (by kernel_rfl) ?_) | (refine wpList_load_blk (by rfl) 24 _ rfl rfl (by first | exact h1 | exact h2 | exact h5 | exact h7 | exact k1 | exact hb | exact hz) Tryd.underlying24 rfl (by kernel_rfl) ?_))); refine (C.awake _ (hT.ext HE.out)).mono ?_; rintro e w' ⟨rfl, hE⟩; (try replace hb := hb.ext hE); (try replace hz := hz.ext hE); (try replace hm := hm.ext hE); (try replace h1 := h1.ext hE); (try replace h2 := h2.ext hE); (try replace h5 := h5.ext hE); (try replace h7 := h7.ext hE); (try replace k1 := k1.ext hE); (try replace HE := Lib.hid (HE.out.trans hE)); (try replace HF := Lib.hid (HF.out.trans hE))
    clear hE
    go_wp2
    go_ret
    exact ⟨rfl, HE.out⟩
  have hz : ((L.length : Int) == 0) = false := by rw [beq_eq_false_iff_ne]; omega
  have hp : 0 < L.length := by omega
  have hrem : (q : Int).tmod (L.length : Int) = ((q % L.length : Nat) : Int) := (Int.ofNat_tmod q L.length).symm
  have hi : q % L.length < L.length := Nat.mod_lt _ (by omega)
  have hrem4 : (p : Int).tmod 4 = ((p % 4 : Nat) : Int) := by rw [Int.tmod_eq_emod_of_nonneg (by omega)]; omega
  have hy : p % 4 < 4 := Nat.mod_lt _ (by decide)
  generalize hqi : q % L.length = i at *
  generalize hpy : p % 4 = y at *
  clear hqi hpy
  have cpt := fun w h k => C.put A L c e v w hrt hm hv h k
  have cus := fun w h k => C.use A L c i y w hrt hi hy h k
  have cdr := fun w h k => C.drop A L c i y w hrt hi hy h k
  have o1 := one_put hrt hp hm v
  have o2 := one_use hrt hi y
  have o3 := one_drop hrt hi hy
  have hdc := drop_cnt hi hy
  have hdg := drop_gone hi hy
  have cda := fun A c w h k => C.all A (dropT L i y) c w o3.right h k
  unfold TlbR at cpt cus
  generalize putT e v L = T1 at *
  generalize useT L i y = T2 at *
  generalize dropT L i y = T3 at *
  rw [o1.len] at cpt
  rw [o2.len] at cus
  rw [o3.len] at cda
  clear hm hv
  go_enter Tryd.func5, Tryd.ntmps5
  go_wp2_with (fail); refine (C.awake _ (hT.ext HE.out)).mono ?_; rintro e w' ⟨rfl, hE⟩; (try replace hb := hb.ext hE); (try replace hz := hz.ext hE); (try replace hm := hm.ext hE); (try replace h1 := h1.ext hE); (try replace h2 := h2.ext hE); (try replace h5 := h5.ext hE); (try replace h7 := h7.ext hE); (try replace k1 := k1.ext hE); (try replace HE := Lib.hid (HE.out.trans hE)); (try replace HF := Lib.hid (HF.out.trans hE))
  clear hE
  go_wp2_with ((refine wpList_load_blk (by rfl) 24 _ rfl rfl (by first | exact h1 | exact h2 | exact h5 | exact h7 | exact k1 | exact hb | exact hz) Tryd.underlying24 rfl (by kernel_rfl) ?_)); refine (crr _ (hrow _ HE.out)).mono ?_; rintro e w' ⟨rfl, hE⟩; (try replace hb := hb.ext hE); (try replace hz := hz.ext hE); (try replace hm := hm.ext hE); (try replace h1 := h1.ext hE); (try replace h2 := h2.ext hE); (try replace h5 := h5.ext hE); (try replace h7 := h7.ext hE); (try replace k1 := k1.ext hE); (try replace HE := Lib.hid (HE.out.trans hE)); (try replace HF := Lib.hid (HF.out.trans hE))
  clear hE
  go_wp2_with ((refine wpList_load_blk (by rfl) 29 _ rfl rfl (by first | exact h1 | exact h2 | exact h5 | exact h7 | exact k1 | exact hb | exact hz) Tryd.underlying29 rfl (by kernel_rfl) ?_)); refine (rme _).mono ?_; rintro e w' ⟨rfl, hE⟩; (try replace hb := hb.ext hE); (try replace hz := hz.ext hE); (try replace hm := hm.ext hE); (try replace h1 := h1.ext hE); (try replace h2 := h2.ext hE); (try replace h5 := h5.ext hE); (try replace h7 := h7.ext hE); (try replace k1 := k1.ext hE); (try replace HE := Lib.hid (HE.out.trans hE)); (try replace HF := Lib.hid (HF.out.trans hE))
  clear hE
  have x0 := h2.en_v
  rw [HV.out] at x0
  have x1 : w'.cell? ⟨w.heap.size, 0, none⟩ = some (.slice A L.length c) := (h1.cell 0).trans rfl
  go_upto_region 5 with fail
  clear x0 x1 crr rme hrem hrem4 hz
  (try replace hb := Blk.drew hb); (try replace hz := Blk.drew hz); (try replace hm := Blk.drew hm); (try replace h1 := Blk.drew h1); (try replace h2 := Blk.drew h2); (try replace h5 := Blk.drew h5); (try replace h7 := Blk.drew h7); (try replace k1 := Blk.drew k1); replace HE := Lib.hid HE.out.drew; (try replace HF := Lib.hid HF.out.drew)
  refine wp_region_seq [(0, false), (1, false), (2, false), (4, false), (5, false), (6, false), (3, true), (7, true), (8, true), (9, false)] Ext (by kernel_rfl) (by kernel_rfl) Ext.refl (fun _ _ _ => Ext.trans) ?_; simp only [List.map, nth_z, nth_s]
  (try simp only [Act.put, List.setIfInBounds_toArray, List.set_cons_zero, List.set_cons_succ])
  refine seq_load rfl rfl (fun x hx => Blk.ext (h1) hx) rfl Tryd.underlying24 (by kernel_rfl) (by rfl) ?_; intro K hK; simp only [Act.put, List.setIfInBounds_toArray, List.set_cons_zero, List.set_cons_succ]; refine hK _ ?_; clear hK K
  (repeat (first | (refine seq_skip (by rfl) ?_; intro K hK; simp only [Act.put, List.setIfInBounds_toArray, List.set_cons_zero, List.set_cons_succ]; refine hK _ ?_; clear hK K) | (refine seq_skipc (by rfl) ?_; intro K hK; simp only [Act.put, List.setIfInBounds_toArray, List.set_cons_zero, List.set_cons_succ]; refine hK _ ?_; clear hK K) | (refine seq_read (by rfl) (by rfl) ?_; intro K hK; go_big_quiet_op; first | go_big_quiet_on | (refine ⟨_, fun _ _ => rfl, ?_⟩; go_big_quiet_on))))
  refine seq_load rfl rfl (fun x hx => Blk.ext (h2) hx) rfl Tryd.underlying29 (by kernel_rfl) (by rfl) ?_; intro K hK; simp only [Act.put, List.setIfInBounds_toArray, List.set_cons_zero, List.set_cons_succ]; refine hK _ ?_; clear hK K
  (repeat (first | (refine seq_skip (by rfl) ?_; intro K hK; simp only [Act.put, List.setIfInBounds_toArray, List.set_cons_zero, List.set_cons_succ]; refine hK _ ?_; clear hK K) | (refine seq_skipc (by rfl) ?_; intro K hK; simp only [Act.put, List.setIfInBounds_toArray, List.set_cons_zero, List.set_cons_succ]; refine hK _ ?_; clear hK K) | (refine seq_read (by rfl) (by rfl) ?_; intro K hK; go_big_quiet_op; first | go_big_quiet_on | (refine ⟨_, fun _ _ => rfl, ?_⟩; go_big_quiet_on))))
  refine seq_load rfl rfl (fun x hx => Blk.ext (h1) hx) rfl Tryd.underlying24 (by kernel_rfl) (by rfl) ?_; intro K hK; simp only [Act.put, List.setIfInBounds_toArray, List.set_cons_zero, List.set_cons_succ]; refine hK _ ?_; clear hK K
  (repeat (first | (refine seq_skip (by rfl) ?_; intro K hK; simp only [Act.put, List.setIfInBounds_toArray, List.set_cons_zero, List.set_cons_succ]; refine hK _ ?_; clear hK K) | (refine seq_skipc (by rfl) ?_; intro K hK; simp only [Act.put, List.setIfInBounds_toArray, List.set_cons_zero, List.set_cons_succ]; refine hK _ ?_; clear hK K) | (refine seq_read (by rfl) (by rfl) ?_; intro K hK; go_big_quiet_op; first | go_big_quiet_on | (refine ⟨_, fun _ _ => rfl, ?_⟩; go_big_quiet_on))))
  refine seq_call (cpt _ (hrow _ HE.out) (hT.ext HE.out)) rfl Tryd.func24 (by kernel_rfl) (by kernel_rfl) (by rfl) (by rfl) ?_; intro K hK; rintro e w' ⟨A1, c1, rfl, r1, hE⟩; refine ⟨_, rfl, hE, ?_⟩; simp only [Act.put, List.setIfInBounds_toArray, List.set_cons_zero, List.set_cons_succ]; refine hK _ _ ?_; clear hK K
  (try replace hb := hb.ext hE); (try replace hz := hz.ext hE); (try replace hm := hm.ext hE); (try replace h1 := h1.ext hE); (try replace h2 := h2.ext hE); (try replace h5 := h5.ext hE); (try replace h7 := h7.ext hE); (try replace k1 := k1.ext hE); (try replace HE := Lib.hid (HE.out.trans hE)); (try replace HF := Lib.hid (HF.out.trans hE)); (try replace r0 := r0.ext hE); (try replace r1 := r1.ext hE); (try replace r2 := r2.ext hE); (try replace r3 := r3.ext hE); (try replace r4 := r4.ext hE); (try replace r5 := r5.ext hE); (try replace r6 := r6.ext hE)
  clear hE
  refine seq_call (cus _ (hrow _ HE.out) (hT.ext HE.out)) rfl Tryd.func20 (by kernel_rfl) (by kernel_rfl) (by rfl) (by rfl) ?_; intro K hK; rintro e w' ⟨A2, c2, rfl, r2, hE⟩; refine ⟨_, rfl, hE, ?_⟩; simp only [Act.put, List.setIfInBounds_toArray, List.set_cons_zero, List.set_cons_succ]; refine hK _ _ ?_; clear hK K
  (try replace hb := hb.ext hE); (try replace hz := hz.ext hE); (try replace hm := hm.ext hE); (try replace h1 := h1.ext hE); (try replace h2 := h2.ext hE); (try replace h5 := h5.ext hE); (try replace h7 := h7.ext hE); (try replace k1 := k1.ext hE); (try replace HE := Lib.hid (HE.out.trans hE)); (try replace HF := Lib.hid (HF.out.trans hE)); (try replace r0 := r0.ext hE); (try replace r1 := r1.ext hE); (try replace r2 := r2.ext hE); (try replace r3 := r3.ext hE); (try replace r4 := r4.ext hE); (try replace r5 := r5.ext hE); (try replace r6 := r6.ext hE)
  clear hE
  refine seq_run (.slice (some ⟨w'.heap.size, 0, none⟩) 2 2) (w'.alloc (.cells #[.slice A1 L.length c1, .slice A2 L.length c2] 24)) (by rfl) ?_ ((Ext.refl _).alloc _) ?_; (simp [go_sem, execOp, Act.eval]); intro K hK; simp only [Act.put, List.setIfInBounds_toArray, List.set_cons_zero, List.set_cons_succ]; refine hK _ _ ?_; clear hK K
  (repeat (first | (refine seq_skip (by rfl) ?_; intro K hK; simp only [Act.put, List.setIfInBounds_toArray, List.set_cons_zero, List.set_cons_succ]; refine hK _ ?_; clear hK K) | (refine seq_skipc (by rfl) ?_; intro K hK; simp only [Act.put, List.setIfInBounds_toArray, List.set_cons_zero, List.set_cons_succ]; refine hK _ ?_; clear hK K) | (refine seq_read (by rfl) (by rfl) ?_; intro K hK; go_big_quiet_op; first | go_big_quiet_on | (refine ⟨_, fun _ _ => rfl, ?_⟩; go_big_quiet_on))))
  refine seq_done ?_
  have k1 := Blk.new w' 24 #[.slice A1 L.length c1, .slice A2 L.length c2]
  have hown : (w'.alloc (.cells #[.slice A1 L.length c1, .slice A2 L.length c2] 24)).ownsRow w'.heap.size KT.e KT.sz (.slice (some ⟨w'.heap.size, 0, none⟩) 2 2) 2 (KT.flat [(A1, L.length, c1), (A2, L.length, c2)]) :=
    World.ownsRow_lit (base := w'.heap.size) (e := KT.e) (size := KT.sz) w' #[.slice A1 L.length c1, .slice A2 L.length c2] 2 (Nat.le_refl _) (by unfold maxLen; decide) (by rfl)
  have hwl : w.heap.size < w'.heap.size := h1.lt
  have hE := (Ext.refl w').alloc (.cells #[.slice A1 L.length c1, .slice A2 L.length c2] 24)
  (try replace hb := hb.ext hE); (try replace hz := hz.ext hE); (try replace hm := hm.ext hE); (try replace h1 := h1.ext hE); (try replace h2 := h2.ext hE); (try replace h5 := h5.ext hE); (try replace h7 := h7.ext hE); (try replace k1 := k1.ext hE); (try replace HE := Lib.hid (HE.out.trans hE)); (try replace HF := Lib.hid (HF.out.trans hE)); (try replace r0 := r0.ext hE); (try replace r1 := r1.ext hE); (try replace r2 := r2.ext hE); (try replace r3 := r3.ext hE); (try replace r4 := r4.ext hE); (try replace r5 := r5.ext hE); (try replace r6 := r6.ext hE)
  clear hE
  generalize w'.heap.size = g13 at *
  generalize w'.alloc (.cells #[.slice A1 L.length c1, .slice A2 L.length c2] 24) = W2 at *
  clear cpt cus
  go_wp2_with (refine wpList_load_blk (by rfl) 24 _ rfl rfl (by first | exact h1 | exact h2 | exact h5 | exact h7 | exact k1 | exact hb | exact hz) Tryd.underlying24 rfl (by kernel_rfl) ?_)
  refine (cdr _ (hrow _ HE.out) (hT.ext HE.out)).mono ?_
  rintro e6 w' ⟨A3, c3, rfl, r3, hE⟩
  (try replace hb := hb.ext hE); (try replace hz := hz.ext hE); (try replace hm := hm.ext hE); (try replace h1 := h1.ext hE); (try replace h2 := h2.ext hE); (try replace h5 := h5.ext hE); (try replace h7 := h7.ext hE); (try replace k1 := k1.ext hE); (try replace HE := Lib.hid (HE.out.trans hE)); (try replace HF := Lib.hid (HF.out.trans hE)); (try replace r0 := r0.ext hE); (try replace r1 := r1.ext hE); (try replace r2 := r2.ext hE); (try replace r3 := r3.ext hE); (try replace r4 := r4.ext hE); (try replace r5 := r5.ext hE); (try replace r6 := r6.ext hE)
  replace hown := own_ext hown hE
  clear hE cdr
  have hd1 := k1.lt
  replace hown := World.ownsRow.alloc hown (.cells #[.slice A3 L.length c3] 24)
  have hE := (Ext.refl w').alloc (.cells (#[.slice A3 L.length c3]) 24); (try replace hb := hb.ext hE); (try replace hz := hz.ext hE); (try replace hm := hm.ext hE); (try replace h1 := h1.ext hE); (try replace h2 := h2.ext hE); (try replace h5 := h5.ext hE); (try replace h7 := h7.ext hE); (try replace k1 := k1.ext hE); (try replace HE := Lib.hid (HE.out.trans hE)); (try replace HF := Lib.hid (HF.out.trans hE)); (try replace r0 := r0.ext hE); (try replace r1 := r1.ext hE); (try replace r2 := r2.ext hE); (try replace r3 := r3.ext hE); (try replace r4 := r4.ext hE); (try replace r5 := r5.ext hE); (try replace r6 := r6.ext hE); clear hE; have h5 := Blk.new w' 24 (#[.slice A3 L.length c3]); go_upto_region 7 with (fail); generalize w'.heap.size = g14 at *; generalize w'.alloc (.cells (#[.slice A3 L.length c3]) 24) = W3 at *
  have hd2 := h5.lt
  have hap := fun ty => run_append_one kt_ok W3 g13 _ [(A1, L.length, c1), (A2, L.length, c2)] hown (A3, L.length, c3) (by show (2 + 1) * 24 ≤ _; decide) (by show 2 + 1 ≤ _; unfold maxLen; decide) (by omega) ty
  clear hown
  go_upto_region 8 with (first | (refine wpList_load_blk (by rfl) 24 _ rfl rfl (by first | exact h1 | exact h2 | exact h5 | exact h7 | exact k1 | exact hb | exact hz) Tryd.underlying24 rfl (by kernel_rfl) ?_) | (at_builtin; refine wpList_append_run' _ rfl _ _ _ rfl _ _ rfl rfl _ (hap _) ?_; rintro v3 w3 ⟨hown3, hgr⟩))
  have hg2 : (W3.alloc (.cells #[.slice A3 L.length c3] 24)).grownBy w3 (some g13) := hgr
  have hgp := grown_gap hg2
  have hE := (Ext.refl W3).alloc (.cells #[.slice A3 L.length c3] 24)
  (try replace hb := hb.ext hE); (try replace hz := hz.ext hE); (try replace hm := hm.ext hE); (try replace h1 := h1.ext hE); (try replace h2 := h2.ext hE); (try replace h5 := h5.ext hE); (try replace h7 := h7.ext hE); (try replace k1 := k1.ext hE); (try replace HE := Lib.hid (HE.out.trans hE)); (try replace HF := Lib.hid (HF.out.trans hE)); (try replace r0 := r0.ext hE); (try replace r1 := r1.ext hE); (try replace r2 := r2.ext hE); (try replace r3 := r3.ext hE); (try replace r4 := r4.ext hE); (try replace r5 := r5.ext hE); (try replace r6 := r6.ext hE)
  clear hE hap hgr
  replace HE := Lib.hid (grown_ext HE.out hg2 (Nat.le_of_lt hwl))
  replace r1 := r1.gap hgp (row_ne r1 (by rw [o1.len]; exact hp) k1)
  replace r2 := r2.gap hgp (row_ne r2 (by rw [o2.len]; exact hp) k1)
  replace r3 := r3.gap hgp (row_ne r3 (by rw [o3.len]; exact hp) k1)
  replace h5 := Gap.blk hgp h5 (by omega)
  replace h1 := Gap.blk hgp h1 (by omega)
  clear h2 k1 hg2 hgp hd1 hd2
  have hls : ∀ k, k < 3 → ∃ A' c' T, ([(A1, L.length, c1), (A2, L.length, c2)] ++ [(A3, L.length, c3)]).getD k (none, 0, 0) = (A', L.length, c') ∧ RowV KS w3 A' T c' ∧ OneT L T := by
    intro k hk
    rcases (by omega : k = 0 ∨ k = 1 ∨ k = 2) with rfl | rfl | rfl
    · exact ⟨A1, c1, T1, rfl, r1, o1⟩
    · exact ⟨A2, c2, T2, rfl, r2, o2⟩
    · exact ⟨A3, c3, T3, rfl, r3, o3⟩
  have hX3 : ([(A1, L.length, c1), (A2, L.length, c2)] ++ [(A3, L.length, c3)]).length = 3 := rfl
  obtain ⟨A13, c13, rfl, hX, -⟩ := own_rowv kt_ok hown3
  rw [hX3]
  generalize [(A1, L.length, c1), (A2, L.length, c2)] ++ [(A3, L.length, c3)] = X at *
  clear hown3 r1 r2
  have HE0 := HE
  have hXr : ∀ W : World, Ext w3 W → RowV KT W A13 X c13 := fun W h => hX.ext h
  have hrw : ∀ W : World, Ext w3 W → RowV KS W A L c := fun W h => hrow W (HE0.out.trans h)
  have HX3 := Lib.hid hX3
  have b1 := h1
  have b5 := h5
  have s3 := r3
  clear hX hX3 hrow h1 h5 r3 HE
  go_wp2
  go_loopw [16] (fun i wr => ∃ k : Nat, k ≤ 3 ∧ i = .int .i64 k ∧ Ext w3 wr) (fun i _ => (3 - intOf i).toNat)
  case atStart => exact ⟨0, by omega, rfl, Ext.refl _⟩
  case round =>
    obtain ⟨k, hk, rfl, hE⟩ := hrel
    have HB := Lib.hid hE
    clear hE
    by_cases hlt : k < 3
    · have hkz : (k : Int) < 3 := by omega
      obtain ⟨b, off, rfl, hb, hrx⟩ := (hXr _ HB.out).some (by rw [HX3.out]; decide)
      obtain ⟨A', c', T, hxe, hrT, oT⟩ := hls k hlt
      have e1 : wr.rangeAt b (off + k) (#[Value.slice A' L.length c']).toList := by
        have := hrx k (by rw [HX3.out]; exact hlt)
        rw [show X.getD k KT.d = (A', L.length, c') from hxe] at this
        simpa [KT] using this
      clear hrx hls hXr hxe cda hdc hdg b5 s3
      obtain ⟨x, hx⟩ := oT.one
      have hTl := oT.len
      have rar := fun w hr => rright14_c A' T c' (by rw [hTl]; omega) w hr
      have ra1 := fun w hr => ral A' T c' (by rw [hTl]; omega) w hr
      have ra2 := fun w hr => ral A L c (by omega) w hr
      have hla := oT.all
      have hl1 := all_le T
      have hl2 := all_le L
      rw [oT.right, hTl] at rar
      rw [hTl] at ra1 hl1
      have HTl := Lib.hid hTl
      have hrt2 : ∀ W : World, Ext w3 W → RowV KS W A' T c' := fun W h => hrT.ext h
      have hHx := Lib.hid hx
      clear hTl oT hrT hx o1 o2 o3 HX3 ral hT hk
      unfold MadeE at ra1 ra2
      generalize (allT T).length = lT at *
      generalize (allT L).length = lL at *
      have h1 := b1.ext HB.out
      have hE := (Ext.refl wr).alloc (.cells #[.slice A' L.length c'] 24)
      have h7 := Blk.new wr 24 #[.slice A' L.length c']
      replace h1 := h1.ext hE
      replace HB := Lib.hid (HB.out.trans hE)
      clear hE b1
      go_upto_region 12 with (refine wpList_load_rng (w := wr) (by rfl) 24 _ rfl rfl e1 Tryd.underlying24 rfl (by kernel_rfl) ?_)
      clear e1 hb
      generalize wr.heap.size = g17 at *
      generalize wr.alloc (.cells #[.slice A' L.length c'] 24) = wr1 at *
      have x1 : wr1.cell? ⟨w.heap.size, 0, none⟩ = some (.slice A L.length c) := (h1.cell 0).trans rfl
      have x7 : wr1.cell? ⟨g17, 0, none⟩ = some (.slice A' L.length c') := (h7.cell 0).trans rfl
      have hnn : ((L.length : Int) != (L.length : Int)) = false := by simp
      go_wp2
      clear x1 x7 hnn
      go_loopw [18, 19] (fun cv kv wr => ∃ (ch j : Nat), j ≤ L.length ∧ cv = .int .i64 ch ∧ kv = .int .i64 j ∧ Hid (Ch x j ch) ∧ Blk wr g17 24 #[.slice A' L.length c'] ∧ Blk wr w.heap.size 24 #[.slice A L.length c] ∧ Ext w3 wr) (fun _ kv _ => (L.length - intOf kv).toNat)
      case atStart => exact ⟨0, 0, by omega, rfl, rfl, Lib.hid (ch_0 x), h7, h1, HB.out⟩
      case round =>
        clear h7 h1 HB
        obtain ⟨ch, j, hj, rfl, rfl, HC, h7, h1, hE⟩ := hrel
        have HB := Lib.hid hE
        clear hE
        have hc1 := ch_le HC.out
        have x1 : wr.cell? ⟨w.heap.size, 0, none⟩ = some (.slice A L.length c) := (h1.cell 0).trans rfl
        by_cases hlj : j < L.length
        · have hjz : (j : Int) < (L.length : Int) := by omega
          obtain ⟨b, off, rfl, hb, hrx⟩ := (hrw _ HB.out).some hp
          obtain ⟨b2, off2, rfl, hb2, hrx2⟩ := (hrt2 _ HB.out).some (by rw [HTl.out]; exact hp)
          have e2 : wr.rangeAt b (off + j * 45) (stC (sT L j)).toList := by rw [sT_eq]; exact hrx j hlj
          have e1 : wr.rangeAt b2 (off2 + j * 45) (stC (sT T j)).toList := by rw [sT_eq]; exact hrx2 j (by rw [HTl.out]; exact hlj)
          have hnq : ∀ w, (binOp .neq 52 (.agg (stC (sT T j))) (.agg (stC (sT L j)))).run Tryd.prog w = .ok (.bool (!decide (sT T j = sT L j))) w := fun w => neq_st w _ _
          have hD : decide (sT T j = sT L j) = false → Hid (Ch x (j + 1) (ch + 1)) := fun h => Lib.hid (ch_new HC.out (by
            by_cases hjx : j = x
            · exact hjx
            · have := hHx.out j hlj hjx
              rw [this] at h; simp at h))
          have hS := Lib.hid (ch_same HC.out)
          clear hrx hrx2 hrw hrt2 HC hHx ra1 ra2 rar
          generalize decide (sT T j = sT L j) = D at *
          generalize sT T j = s1 at *
          generalize sT L j = s2 at *
          go_wp2_with fail
          clear x1
          replace h1 := Blk.drew h1
          replace h7 := Blk.drew h7
          replace HB := Lib.hid HB.out.drew
          refine wp_region_seq [(0, false), (1, false), (2, false), (3, false), (4, false), (5, false), (6, false), (7, false), (8, false), (9, false), (10, false)] Ext (by kernel_rfl) (by kernel_rfl) Ext.refl (fun _ _ _ => Ext.trans) ?_; simp only [List.map, nth_z, nth_s]
          (try simp only [Act.put, List.setIfInBounds_toArray, List.set_cons_zero, List.set_cons_succ])
          (repeat (first | (refine seq_skip (by rfl) ?_; intro K hK; simp only [Act.put, List.setIfInBounds_toArray, List.set_cons_zero, List.set_cons_succ]; refine hK _ ?_; clear hK K) | (refine seq_skipc (by rfl) ?_; intro K hK; simp only [Act.put, List.setIfInBounds_toArray, List.set_cons_zero, List.set_cons_succ]; refine hK _ ?_; clear hK K) | (refine seq_read (by rfl) (by rfl) ?_; intro K hK; go_big_quiet_op; first | go_big_quiet_on | (refine ⟨_, fun _ _ => rfl, ?_⟩; go_big_quiet_on))))
          refine seq_value ((.slice (some ⟨b2, off2, none⟩) L.length c')) (by rfl) (fun x hx => by have hq := ext_cell hx ((h7.cell 0).trans rfl); simp [go_sem, execOp, Act.eval, hq]) ?_; intro K hK; simp only [Act.put, List.setIfInBounds_toArray, List.set_cons_zero, List.set_cons_succ]; refine hK _ ?_; clear hK K
          (repeat (first | (refine seq_skip (by rfl) ?_; intro K hK; simp only [Act.put, List.setIfInBounds_toArray, List.set_cons_zero, List.set_cons_succ]; refine hK _ ?_; clear hK K) | (refine seq_skipc (by rfl) ?_; intro K hK; simp only [Act.put, List.setIfInBounds_toArray, List.set_cons_zero, List.set_cons_succ]; refine hK _ ?_; clear hK K) | (refine seq_read (by rfl) (by rfl) ?_; intro K hK; go_big_quiet_op; first | go_big_quiet_on | (refine ⟨_, fun _ _ => rfl, ?_⟩; go_big_quiet_on))))
          refine seq_load_rng rfl rfl ((fun x hx => rgx_ext hx e1)) rfl Tryd.underlying52 (st_info _) (by rfl) ?_; intro K hK; simp only [Act.put, List.setIfInBounds_toArray, List.set_cons_zero, List.set_cons_succ]; refine hK _ ?_; clear hK K
          (repeat (first | (refine seq_skip (by rfl) ?_; intro K hK; simp only [Act.put, List.setIfInBounds_toArray, List.set_cons_zero, List.set_cons_succ]; refine hK _ ?_; clear hK K) | (refine seq_skipc (by rfl) ?_; intro K hK; simp only [Act.put, List.setIfInBounds_toArray, List.set_cons_zero, List.set_cons_succ]; refine hK _ ?_; clear hK K) | (refine seq_read (by rfl) (by rfl) ?_; intro K hK; go_big_quiet_op; first | go_big_quiet_on | (refine ⟨_, fun _ _ => rfl, ?_⟩; go_big_quiet_on))))
          refine seq_value ((.slice (some ⟨b, off, none⟩) L.length c)) (by rfl) (fun x hx => by have hq := ext_cell hx ((h1.cell 0).trans rfl); simp [go_sem, execOp, Act.eval, hq]) ?_; intro K hK; simp only [Act.put, List.setIfInBounds_toArray, List.set_cons_zero, List.set_cons_succ]; refine hK _ ?_; clear hK K
          (repeat (first | (refine seq_skip (by rfl) ?_; intro K hK; simp only [Act.put, List.setIfInBounds_toArray, List.set_cons_zero, List.set_cons_succ]; refine hK _ ?_; clear hK K) | (refine seq_skipc (by rfl) ?_; intro K hK; simp only [Act.put, List.setIfInBounds_toArray, List.set_cons_zero, List.set_cons_succ]; refine hK _ ?_; clear hK K) | (refine seq_read (by rfl) (by rfl) ?_; intro K hK; go_big_quiet_op; first | go_big_quiet_on | (refine ⟨_, fun _ _ => rfl, ?_⟩; go_big_quiet_on))))
          refine seq_load_rng rfl rfl ((fun x hx => rgx_ext hx e2)) rfl Tryd.underlying52 (st_info _) (by rfl) ?_; intro K hK; simp only [Act.put, List.setIfInBounds_toArray, List.set_cons_zero, List.set_cons_succ]; refine hK _ ?_; clear hK K
          refine seq_cmp rfl rfl rfl (st_guard) (hnq) (by rfl) ?_; intro K hK; simp only [Act.put, List.setIfInBounds_toArray, List.set_cons_zero, List.set_cons_succ]; refine hK _ ?_; clear hK K
          refine seq_done ?_
          clear hnq e1 e2
          cases D
          · have I2 := hD rfl
            clear hD hS
            go_wp2
            go_roundw
            case rel => exact ⟨ch + 1, j + 1, by omega, by go_num, by go_num, I2, h7, h1, HB.out⟩
            case measure => simp [intOf]; omega
          · clear hD
            go_wp2
            go_roundw
            case rel => exact ⟨ch, j + 1, by omega, by go_num, by go_num, hS, h7, h1, HB.out⟩
            case measure => simp [intOf]; omega
        · obtain rfl : j = L.length := by omega
          clear hHx
          have dc : decide (1 < (ch : Int)) = false := by simp; omega
          have dl : decide ((lL : Int) + 1 < (lT : Int)) = false := by simp; omega
          have dw : IntKind.i64.wrap ((lL : Int) + 1) = (lL : Int) + 1 := IntWalk.i64_in _ (by omega)
          go_wp2_with fail
          clear x1
          replace h1 := Blk.drew h1
          replace h7 := Blk.drew h7
          replace HB := Lib.hid HB.out.drew
          refine wp_region_seq [(0, false), (1, false), (2, false), (3, false), (6, false), (4, true), (5, false), (7, true), (8, false), (9, false), (10, false), (11, false), (12, false), (13, false), (14, true), (15, false), (16, false)] Ext (by kernel_rfl) (by kernel_rfl) Ext.refl (fun _ _ _ => Ext.trans) ?_; simp only [List.map, nth_z, nth_s]
          (try simp only [Act.put, List.setIfInBounds_toArray, List.set_cons_zero, List.set_cons_succ])
          (repeat (first | (refine seq_skip (by rfl) ?_; intro K hK; simp only [Act.put, List.setIfInBounds_toArray, List.set_cons_zero, List.set_cons_succ]; refine hK _ ?_; clear hK K) | (refine seq_skipc (by rfl) ?_; intro K hK; simp only [Act.put, List.setIfInBounds_toArray, List.set_cons_zero, List.set_cons_succ]; refine hK _ ?_; clear hK K) | (refine seq_read (by rfl) (by rfl) ?_; intro K hK; go_big_quiet_op; first | go_big_quiet_on | (refine ⟨_, fun _ _ => rfl, ?_⟩; go_big_quiet_on))))
          refine seq_load rfl rfl (fun x hx => Blk.ext (h7) hx) rfl Tryd.underlying24 (by kernel_rfl) (by rfl) ?_; intro K hK; simp only [Act.put, List.setIfInBounds_toArray, List.set_cons_zero, List.set_cons_succ]; refine hK _ ?_; clear hK K
          (repeat (first | (refine seq_skip (by rfl) ?_; intro K hK; simp only [Act.put, List.setIfInBounds_toArray, List.set_cons_zero, List.set_cons_succ]; refine hK _ ?_; clear hK K) | (refine seq_skipc (by rfl) ?_; intro K hK; simp only [Act.put, List.setIfInBounds_toArray, List.set_cons_zero, List.set_cons_succ]; refine hK _ ?_; clear hK K) | (refine seq_read (by rfl) (by rfl) ?_; intro K hK; go_big_quiet_op; first | go_big_quiet_on | (refine ⟨_, fun _ _ => rfl, ?_⟩; go_big_quiet_on))))
          refine seq_load rfl rfl (fun x hx => Blk.ext (h1) hx) rfl Tryd.underlying24 (by kernel_rfl) (by rfl) ?_; intro K hK; simp only [Act.put, List.setIfInBounds_toArray, List.set_cons_zero, List.set_cons_succ]; refine hK _ ?_; clear hK K
          (repeat (first | (refine seq_skip (by rfl) ?_; intro K hK; simp only [Act.put, List.setIfInBounds_toArray, List.set_cons_zero, List.set_cons_succ]; refine hK _ ?_; clear hK K) | (refine seq_skipc (by rfl) ?_; intro K hK; simp only [Act.put, List.setIfInBounds_toArray, List.set_cons_zero, List.set_cons_succ]; refine hK _ ?_; clear hK K) | (refine seq_read (by rfl) (by rfl) ?_; intro K hK; go_big_quiet_op; first | go_big_quiet_on | (refine ⟨_, fun _ _ => rfl, ?_⟩; go_big_quiet_on))))
          refine seq_call (ra1 _ (hrt2 _ HB.out)) rfl Tryd.func23 (by kernel_rfl) (by kernel_rfl) (by rfl) (by rfl) ?_; intro K hK; rintro e w' ⟨A6, c6, rfl, -, -, hE⟩; refine ⟨_, rfl, hE, ?_⟩; simp only [Act.put, List.setIfInBounds_toArray, List.set_cons_zero, List.set_cons_succ]; refine hK _ _ ?_; clear hK K
          (try replace hb := hb.ext hE); (try replace hz := hz.ext hE); (try replace hm := hm.ext hE); (try replace h1 := h1.ext hE); (try replace h2 := h2.ext hE); (try replace h5 := h5.ext hE); (try replace h7 := h7.ext hE); (try replace k1 := k1.ext hE); (try replace HE := Lib.hid (HE.out.trans hE)); (try replace HF := Lib.hid (HF.out.trans hE)); (try replace r0 := r0.ext hE); (try replace r1 := r1.ext hE); (try replace r2 := r2.ext hE); (try replace r3 := r3.ext hE); (try replace r4 := r4.ext hE); (try replace r5 := r5.ext hE); (try replace r6 := r6.ext hE)
          replace HB := Lib.hid (HB.out.trans hE)
          clear hE
          (repeat (first | (refine seq_skip (by rfl) ?_; intro K hK; simp only [Act.put, List.setIfInBounds_toArray, List.set_cons_zero, List.set_cons_succ]; refine hK _ ?_; clear hK K) | (refine seq_skipc (by rfl) ?_; intro K hK; simp only [Act.put, List.setIfInBounds_toArray, List.set_cons_zero, List.set_cons_succ]; refine hK _ ?_; clear hK K) | (refine seq_read (by rfl) (by rfl) ?_; intro K hK; go_big_quiet_op; first | go_big_quiet_on | (refine ⟨_, fun _ _ => rfl, ?_⟩; go_big_quiet_on))))
          refine seq_call (ra2 _ (hrw _ HB.out)) rfl Tryd.func23 (by kernel_rfl) (by kernel_rfl) (by rfl) (by rfl) ?_; intro K hK; rintro e w' ⟨A7, c7, rfl, -, -, hE⟩; refine ⟨_, rfl, hE, ?_⟩; simp only [Act.put, List.setIfInBounds_toArray, List.set_cons_zero, List.set_cons_succ]; refine hK _ _ ?_; clear hK K
          (try replace hb := hb.ext hE); (try replace hz := hz.ext hE); (try replace hm := hm.ext hE); (try replace h1 := h1.ext hE); (try replace h2 := h2.ext hE); (try replace h5 := h5.ext hE); (try replace h7 := h7.ext hE); (try replace k1 := k1.ext hE); (try replace HE := Lib.hid (HE.out.trans hE)); (try replace HF := Lib.hid (HF.out.trans hE)); (try replace r0 := r0.ext hE); (try replace r1 := r1.ext hE); (try replace r2 := r2.ext hE); (try replace r3 := r3.ext hE); (try replace r4 := r4.ext hE); (try replace r5 := r5.ext hE); (try replace r6 := r6.ext hE)
          replace HB := Lib.hid (HB.out.trans hE)
          clear hE
          (repeat (first | (refine seq_skip (by rfl) ?_; intro K hK; simp only [Act.put, List.setIfInBounds_toArray, List.set_cons_zero, List.set_cons_succ]; refine hK _ ?_; clear hK K) | (refine seq_skipc (by rfl) ?_; intro K hK; simp only [Act.put, List.setIfInBounds_toArray, List.set_cons_zero, List.set_cons_succ]; refine hK _ ?_; clear hK K) | (refine seq_read (by rfl) (by rfl) ?_; intro K hK; go_big_quiet_op; first | go_big_quiet_on | (refine ⟨_, fun _ _ => rfl, ?_⟩; go_big_quiet_on))))
          refine seq_load rfl rfl (fun x hx => Blk.ext (h7) hx) rfl Tryd.underlying24 (by kernel_rfl) (by rfl) ?_; intro K hK; simp only [Act.put, List.setIfInBounds_toArray, List.set_cons_zero, List.set_cons_succ]; refine hK _ ?_; clear hK K
          (repeat (first | (refine seq_skip (by rfl) ?_; intro K hK; simp only [Act.put, List.setIfInBounds_toArray, List.set_cons_zero, List.set_cons_succ]; refine hK _ ?_; clear hK K) | (refine seq_skipc (by rfl) ?_; intro K hK; simp only [Act.put, List.setIfInBounds_toArray, List.set_cons_zero, List.set_cons_succ]; refine hK _ ?_; clear hK K) | (refine seq_read (by rfl) (by rfl) ?_; intro K hK; go_big_quiet_op; first | go_big_quiet_on | (refine ⟨_, fun _ _ => rfl, ?_⟩; go_big_quiet_on))))
          refine seq_call (rar _ (hrt2 _ HB.out)) rfl Tryd.func13 (by kernel_rfl) (by kernel_rfl) (by rfl) (by rfl) ?_; intro K hK; rintro e w' ⟨rfl, hE⟩; refine ⟨_, rfl, hE, ?_⟩; simp only [Act.put, List.setIfInBounds_toArray, List.set_cons_zero, List.set_cons_succ]; refine hK _ _ ?_; clear hK K
          replace HB := Lib.hid (HB.out.trans hE)
          clear hE
          (repeat (first | (refine seq_skip (by rfl) ?_; intro K hK; simp only [Act.put, List.setIfInBounds_toArray, List.set_cons_zero, List.set_cons_succ]; refine hK _ ?_; clear hK K) | (refine seq_skipc (by rfl) ?_; intro K hK; simp only [Act.put, List.setIfInBounds_toArray, List.set_cons_zero, List.set_cons_succ]; refine hK _ ?_; clear hK K) | (refine seq_read (by rfl) (by rfl) ?_; intro K hK; go_big_quiet_op; first | go_big_quiet_on | (refine ⟨_, fun _ _ => rfl, ?_⟩; go_big_quiet_on))))
          refine seq_done ?_
          go_wp2
          go_roundw
          case rel => exact ⟨k + 1, by omega, by go_num, HB.out⟩
          case measure => simp [intOf]; omega
    · obtain rfl : k = 3 := by omega
      have h1 := b1.ext HB.out
      have h5 := b5.ext HB.out
      have HE := Lib.hid (HE0.out.trans HB.out)
      have HF := HB
      have r3 := s3.ext HB.out
      have ra2 := fun w hr => ral A L c (by omega) w hr
      have hl2 := all_le L
      have hT3 := o3.len
      unfold MadeE at cda ra2
      clear hls hXr HX3 hk hlt o1 o2 ral HB s3 b1 b5
      go_wp2_with (refine wpList_load_blk (by rfl) 24 _ rfl rfl (by first | exact h1 | exact h2 | exact h5 | exact h7 | exact k1 | exact hb | exact hz) Tryd.underlying24 rfl (by kernel_rfl) ?_)
      refine (cda _ _ _ r3 (hT.ext HE.out)).mono ?_
      rintro e8 w' ⟨A6, c6, rfl, -, -, hE⟩
      (try replace hb := hb.ext hE); (try replace hz := hz.ext hE); (try replace hm := hm.ext hE); (try replace h1 := h1.ext hE); (try replace h2 := h2.ext hE); (try replace h5 := h5.ext hE); (try replace h7 := h7.ext hE); (try replace k1 := k1.ext hE); (try replace HE := Lib.hid (HE.out.trans hE)); (try replace HF := Lib.hid (HF.out.trans hE)); (try replace r0 := r0.ext hE); (try replace r1 := r1.ext hE); (try replace r2 := r2.ext hE); (try replace r3 := r3.ext hE); (try replace r4 := r4.ext hE); (try replace r5 := r5.ext hE); (try replace r6 := r6.ext hE)
      clear hE cda
      generalize (allT T3).length = lT at *
      generalize (allT L).length = lL at *
      obtain ⟨b, off, rfl, -, hrx⟩ := (hrw _ HF.out).some hp
      have e1 : w'.rangeAt b (off + i * 45) (stC (sT L i)).toList := by rw [sT_eq]; exact hrx i hi
      have x0 := rng_cell (rng_way e1 hy) 0 (enC_v _)
      simp only [Nat.add_zero] at x0
      have x1 : w'.cell? ⟨w.heap.size, 0, none⟩ = some (.slice (some ⟨b, off, none⟩) L.length c) := (h1.cell 0).trans rfl
      have hiz : (i : Int) < (L.length : Int) := by omega
      have hyz : (y : Int) < 4 := by omega
      have HT3 := Lib.hid hT3
      clear hrx e1 hT3
      generalize ((sT L i).ws.at y).v = V at *
      cases V
      · have de : ((lT : Int) == (lL : Int)) = true := by rw [beq_iff_eq]; simp only [Bool.toNat_false] at hdc; omega
        have dw : IntKind.i64.wrap (lL : Int) = (lL : Int) := IntWalk.i64_in _ (by omega)
        clear hdc
        go_wp2_with (refine wpList_load_blk (by rfl) 24 _ rfl rfl (by first | exact h1 | exact h2 | exact h5 | exact h7 | exact k1 | exact hb | exact hz) Tryd.underlying24 rfl (by kernel_rfl) ?_)
        refine (ra2 _ (hrw _ HF.out)).mono ?_
        rintro e9 w2 ⟨A7, c7, rfl, -, -, hE⟩
        (try replace hb := hb.ext hE); (try replace hz := hz.ext hE); (try replace hm := hm.ext hE); (try replace h1 := h1.ext hE); (try replace h2 := h2.ext hE); (try replace h5 := h5.ext hE); (try replace h7 := h7.ext hE); (try replace k1 := k1.ext hE); (try replace HE := Lib.hid (HE.out.trans hE)); (try replace HF := Lib.hid (HF.out.trans hE)); (try replace r0 := r0.ext hE); (try replace r1 := r1.ext hE); (try replace r2 := r2.ext hE); (try replace r3 := r3.ext hE); (try replace r4 := r4.ext hE); (try replace r5 := r5.ext hE); (try replace r6 := r6.ext hE)
        clear hE ra2 x0 x1 hrw
        obtain ⟨b3, off3, rfl, -, hrx⟩ := r3.some (by rw [HT3.out]; exact hp)
        have e1 : w2.rangeAt b3 (off3 + i * 45) (stC (sT T3 i)).toList := by rw [sT_eq]; exact hrx i (by rw [HT3.out]; exact hi)
        have x0 := rng_cell (rng_way e1 hy) 0 (enC_v _)
        rw [hdg] at x0
        simp only [Nat.add_zero] at x0
        have x5 : w2.cell? ⟨g14, 0, none⟩ = some (.slice (some ⟨b3, off3, none⟩) L.length c3) := (h5.cell 0).trans rfl
        clear hrx e1 hdg
        go_wp2
        go_ret
        exact ⟨by first | rfl | simp, HE.out⟩
      · have de : ((lT : Int) == (lL : Int) - 1) = true := by rw [beq_iff_eq]; simp only [Bool.toNat_true] at hdc; omega
        have dw : IntKind.i64.wrap ((lL : Int) - 1) = (lL : Int) - 1 := IntWalk.i64_in _ (by omega)
        clear hdc
        go_wp2_with (refine wpList_load_blk (by rfl) 24 _ rfl rfl (by first | exact h1 | exact h2 | exact h5 | exact h7 | exact k1 | exact hb | exact hz) Tryd.underlying24 rfl (by kernel_rfl) ?_)
        refine (ra2 _ (hrw _ HF.out)).mono ?_
        rintro e9 w2 ⟨A7, c7, rfl, -, -, hE⟩
        (try replace hb := hb.ext hE); (try replace hz := hz.ext hE); (try replace hm := hm.ext hE); (try replace h1 := h1.ext hE); (try replace h2 := h2.ext hE); (try replace h5 := h5.ext hE); (try replace h7 := h7.ext hE); (try replace k1 := k1.ext hE); (try replace HE := Lib.hid (HE.out.trans hE)); (try replace HF := Lib.hid (HF.out.trans hE)); (try replace r0 := r0.ext hE); (try replace r1 := r1.ext hE); (try replace r2 := r2.ext hE); (try replace r3 := r3.ext hE); (try replace r4 := r4.ext hE); (try replace r5 := r5.ext hE); (try replace r6 := r6.ext hE)
        clear hE ra2 x0 x1 hrw
        obtain ⟨b3, off3, rfl, -, hrx⟩ := r3.some (by rw [HT3.out]; exact hp)
        have e1 : w2.rangeAt b3 (off3 + i * 45) (stC (sT T3 i)).toList := by rw [sT_eq]; exact hrx i (by rw [HT3.out]; exact hi)
        have x0 := rng_cell (rng_way e1 hy) 0 (enC_v _)
        rw [hdg] at x0
        simp only [Nat.add_zero] at x0
        have x5 : w2.cell? ⟨g14, 0, none⟩ = some (.slice (some ⟨b3, off3, none⟩) L.length c3) := (h5.cell 0).trans rfl
        clear hrx e1 hdg
        go_wp2
        go_ret
        exact ⟨by first | rfl | simp, HE.out⟩
end Go.Proofs.YtdbflmceomnmlaaDoor
