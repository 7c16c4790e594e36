/- FenceOwn. -/
import Derived.Test.YtlimipjfdecbfaaDoorLaw15ab
namespace Go.Proofs.YtlimipjfdecbfaaDoor
open Go.ChangeShapes Go.WideShapes Go.ChangeAt Go.RowKit
set_option linter.unusedVariables false
set_option linter.unusedSimpArgs false

/-! each entry's own fences -/
def vaN (e : En) : Nat := (ofI e.vp).toNat
theorem vaN_eq (e : En) : ((vaN e : Nat) : Int) = ofI e.vp := by
  unfold vaN
  have := (of_lt (e.vp : Int)).1
  omega
theorem vaN_lt (e : En) : vaN e < 18446744073709551616 := by
  have h1 := vaN_eq e
  have := (of_lt (e.vp : Int)).2
  omega
def fsT (M : List En) : List Fc := M.map fun e => fOf e.n (vaN e)
def asT (M : List En) : List Fc := M.map fun e => fAd (vaN e)
def glT (M : List En) : Nat := (M.filter (·.g)).length
theorem take_snoc {α : Type} {M : List α} {d : α} {k : Nat} (hk : k < M.length) : M.take (k + 1) = M.take k ++ [M.getD k d] := by rw [List.take_add_one]; simp [List.getD, hk]
theorem fsT_take {M : List En} {k : Nat} (hk : k < M.length) : fsT (M.take (k + 1)) = fsT (M.take k) ++ [fOf (M.getD k e0).n (vaN (M.getD k e0))] := by
  rw [take_snoc (d := e0) hk]; unfold fsT; rw [List.map_append]; rfl
theorem asT_take {M : List En} {k : Nat} (hk : k < M.length) : asT (M.take (k + 1)) = asT (M.take k) ++ [fAd (vaN (M.getD k e0))] := by
  rw [take_snoc (d := e0) hk]; unfold asT; rw [List.map_append]; rfl
theorem glT_take {M : List En} {k : Nat} (hk : k < M.length) : glT (M.take (k + 1)) = glT (M.take k) + (M.getD k e0).g.toNat := by
  rw [take_snoc (d := e0) hk]; unfold glT; rw [List.filter_append, List.length_append]
  generalize M.getD k e0 = e
  cases hg : e.g <;> simp [List.filter_cons, hg]
theorem glT_le (M : List En) : glT M ≤ M.length := List.length_filter_le _ _
theorem fsT_len (M : List En) : (fsT M).length = M.length := by unfold fsT; simp
theorem asT_len (M : List En) : (asT M).length = M.length := by unfold asT; simp
theorem fsT_ok {M : List En} (h : ∀ e ∈ M, e.n < 18446744073709551616) : ∀ i, i < (fsT M).length → ((fsT M).getD i fc0).ok := fun i hi => by
  have hi2 : i < M.length := by rwa [fsT_len] at hi
  unfold fsT
  simp only [List.getD, List.getElem?_map, List.getElem?_eq_getElem hi2, Option.map_some, Option.getD_some]
  exact fOf_ok (h _ (List.getElem_mem hi2)) (vaN_lt _)
theorem asT_ok (M : List En) : ∀ i, i < (asT M).length → ((asT M).getD i fc0).ok := fun i hi => by
  have hi2 : i < M.length := by rwa [asT_len] at hi
  unfold asT
  simp only [List.getD, List.getElem?_map, List.getElem?_eq_getElem hi2, Option.map_some, Option.getD_some]
  exact fAd_ok (vaN_lt _)
theorem any_own {L : List St} (hrt : rightT L = true) {e : En} (he : e ∈ allT L) : anyF (fsT (allT L)) e = !e.g := by
  have hm := all_may hrt he
  have hv := all_v he
  have hc := cov_own hm hv
  unfold anyF
  cases hg : e.g
  · rw [Bool.not_false, List.any_eq_true]
    refine ⟨fOf e.n (vaN e), ?_, ?_⟩
    · unfold fsT; exact List.mem_map.2 ⟨e, he, rfl⟩
    · rw [nam_of, nam_ad, vaN_eq, hc, Bool.and_true, nam_eq, hv, hg]
      unfold fAs; simp
  · rw [Bool.not_true, List.any_eq_false]
    intro f hf
    unfold fsT at hf
    obtain ⟨e', _, rfl⟩ := List.mem_map.1 hf
    rw [nam_of]
    intro hn
    rw [Bool.and_eq_true] at hn
    have := (nam_as hn.1).1
    rw [hg] at this; cases this
theorem own_left {L : List St} (hrt : rightT L = true) : allT (allF (fsT (allT L)) L) = (allT L).filter (·.g) := by
  unfold allF
  rw [all_zap]
  refine List.filter_congr fun e he => ?_
  rw [any_own hrt he, Bool.not_not]
theorem own_gone {L : List St} (hrt : rightT L = true) : allT (allF (asT (allT L)) L) = [] := by
  unfold allF
  rw [all_zap, List.filter_eq_nil_iff]
  intro e he
  have hc := cov_own (all_may hrt he) (all_v he)
  have : anyF (asT (allT L)) e = true := by
    unfold anyF
    rw [List.any_eq_true]
    refine ⟨fAd (vaN e), ?_, by rw [nam_ad, vaN_eq, hc]⟩
    unfold asT; exact List.mem_map.2 ⟨e, he, rfl⟩
  rw [this]; decide
theorem gl_at {M : List En} {j : Nat} (h : j < (M.filter (·.g)).length) : ((M.filter (·.g)).getD j e0).g = true := by
  have := getD_mem (d := e0) h
  exact (List.mem_filter.1 this).2
attribute [irreducible] vaN fsT asT glT
/-! two rows that the call makes, one beside the other -/
def Apt (y v : Value) : Prop := ∀ g, y.ownBlock = some g → v.ownBlock ≠ some g
theorem apt_symm {y v : Value} (h : Apt y v) : Apt v y := fun g h1 h2 => h g h2 h1
theorem own_grown {w w' : World} {b n sz : Nat} {e : TypeId} {x : Value} {o : Option Nat} {xs : List Value} (h : w.ownsRow b e sz x n xs) (hg : w.grownBy w' o) (ha : ∀ g, x.ownBlock = some g → o ≠ some g) : w'.ownsRow b e sz x n xs := by
  refine ⟨h.1, ?_⟩
  rcases h.2 with h0 | ⟨g, cap, cur, hv, hbg, hh, h3⟩
  · exact .inl h0
  · have hl := (h.lt g (by rw [hv]; rfl)).2
    exact .inr ⟨g, cap, cur, hv, hbg, (hg.block g hl (fun e => ha g (by rw [hv]; rfl) e.symm)).trans hh, h3⟩
theorem append_apt {α : Type} {K : Wide α} (hK : WideOk K) (w : World) (base : Nat) (v : Value) (M : List α) (hown : w.ownsRow base K.e K.sz v M.length (K.flat M)) (x : α) (hn : (M.length + 1) * K.by' ≤ 140737488355328) (hm : M.length + 1 ≤ maxLen) (hb : base ≤ w.heap.size)
    (y : Value) (N : List α) (hy : w.ownsRow base K.e K.sz y N.length (K.flat N)) (ha : Apt y v) (ty : TypeId) :
    ∃ v' w', (Builtin.append_ #[K.sl, K.sl] ty #[v, .slice (some ⟨w.heap.size, 0, none⟩) 1 1]).run Tryd.prog (w.alloc (.cells (K.cf x) K.e)) = .ok v' w' ∧
      w'.ownsRow base K.e K.sz v' (M ++ [x]).length (K.flat (M ++ [x])) ∧ w'.ownsRow base K.e K.sz y N.length (K.flat N) ∧ Apt y v' ∧ Below base w w' := by
  have hblk := Blk.new w K.e (K.cf x)
  have hrow : RowV K (w.alloc (.cells (K.cf x) K.e)) (some ⟨w.heap.size, 0, none⟩) [x] 1 := by
    refine ⟨fun _ => ⟨w.heap.size, 0, rfl, hblk.lt, fun i hi => ?_⟩, (fun h => by cases h), (by simp), (by omega)⟩
    obtain rfl : i = 0 := by simp at hi; omega
    have := hblk.part 0 (ds := K.cf x) (by rw [Nat.zero_add]; simp)
    simpa using this
  have hown1 := World.ownsRow.alloc hown (.cells (K.cf x) K.e)
  have hy1 := World.ownsRow.alloc hy (.cells (K.cf x) K.e)
  obtain ⟨v', w', h1, h2, h3, h4⟩ := run_append_row hK (w.alloc (.cells (K.cf x) K.e)) base v M.length (K.flat M) hown1 (some ⟨w.heap.size, 0, none⟩) [x] 1 hrow (by simpa using hn) (by simpa using hm) (by simp; omega) ty
  refine ⟨v', w', h1, by rw [flat_app, List.length_append]; exact h2, own_grown hy1 h3 (fun g hg => ha g hg), fun g hg => ?_, ?_⟩
  · have hl := (hy.lt g hg).2
    rcases h4 with h4 | h4
    · rw [h4]; exact ha g hg
    · rw [h4]; intro h5; injection h5 with h5; simp at h5; omega
  · exact Below.grown (Below.alloc (Below.refl _ _) hb _) h3 (by simp; omega) (fun k hk => (hown1.lt k hk).1)
theorem fc_fold (f : Fc) : Array.foldl (fun (cs : Array Value) (x : Value × Nat) => cs.setIfInBounds x.snd x.fst) #[.bool false, .int .u64 0, .bool false, .int .u64 0] (fcC f).zipIdx 0 4 = fcC f := by
  simp only [fcC_eq]
  kernel_rfl
attribute [irreducible] Apt
set_option maxRecDepth 100000 in
set_option maxHeartbeats 4000000 in
theorem FenceOwn_w (A : Option Addr) (L : List St) (c : Nat) (w : World) (hr : RowV KS w A L c) (hT : Lays w) :
    Calls Tryd.prog 8 #[.agg #[.slice A L.length c]] w fun r w' => r = .returned (.bool true) ∧ Ext w w' := by
  have h1 := Blk.new w 37 #[.slice A L.length c]
  have HE := Lib.hid ((Ext.refl w).alloc (.cells #[.slice A L.length c] 37))
  have hrow : ∀ W : World, Ext w W → RowV KS W A L c := fun W h => hr.ext h
  have hLm : L.length ≤ 9223372036854775807 := Nat.le_trans hr.2.2.1 hr.2.2.2
  have crr := fun w h => rright14_c A L c hLm w h
  clear hr
  cases hrt : rightT L
  · rw [hrt] at crr
    go_enter Tryd.func8, Tryd.ntmps8
    go_wp2_with (fail); refine (awake15_c _ (hT.ext HE.out)).mono ?_; rintro e w' ⟨rfl, hE⟩; (try replace hb := hb.ext hE); (try replace hm := hm.ext hE); (try replace h1 := h1.ext hE); (try replace hM := hM.ext hE); (try replace HE := Lib.hid (HE.out.trans hE))
    clear hE
    go_wp2_with ((refine wpList_load_blk (by rfl) 37 _ rfl rfl (by first | exact h1 | exact hb) Tryd.underlying37 rfl (by kernel_rfl) ?_)); refine (crr _ (hrow _ HE.out)).mono ?_; rintro e w' ⟨rfl, hE⟩; (try replace hb := hb.ext hE); (try replace hm := hm.ext hE); (try replace h1 := h1.ext hE); (try replace hM := hM.ext hE); (try replace HE := Lib.hid (HE.out.trans hE))
    clear hE
    go_wp2_with (fail); refine (awake15_c _ (hT.ext HE.out)).mono ?_; rintro e w' ⟨rfl, hE⟩; (try replace hb := hb.ext hE); (try replace hm := hm.ext hE); (try replace h1 := h1.ext hE); (try replace hM := hM.ext hE); (try replace HE := Lib.hid (HE.out.trans hE))
    clear hE
    go_wp2
    go_ret
    exact ⟨rfl, HE.out⟩
  rw [hrt] at crr
  have hl16 := rt_len hrt
  have cae := fun w h => rall14_c A L c (by omega) w h
  unfold MadeE at cae
  have hM64 : (allT L).length ≤ 64 := Nat.le_trans (all_le L) (by omega)
  have hnm : ∀ e ∈ allT L, e.n < 18446744073709551616 := fun e he => by have := (may_lt (all_may hrt he)).2.2; omega
  have hvp : ∀ e ∈ allT L, e.vp < 18446744073709551616 := fun e he => by have := (may_lt (all_may hrt he)).1; omega
  have hof := fsT_ok hnm
  have hao := asT_ok (allT L)
  have ca1 := fun B d w h hm k => all15_c A L c hrt B (fsT (allT L)) d hof w h hm k
  have ca2 := fun B d w h hm k => all15_c A L c hrt B (asT (allT L)) d hao w h hm k
  have hl1 := own_left hrt
  have hl2 := own_gone hrt
  have ra1 := fun A c w h => rall14_c A (allF (fsT (allT L)) L) c (by rw [allF_len]; omega) w h
  have ra2 := fun A c w h => rall14_c A (allF (asT (allT L)) L) c (by rw [allF_len]; omega) w h
  unfold MadeE at ra1 ra2
  rw [hl1, allF_len] at ra1
  rw [hl2, allF_len] at ra2
  unfold MadeT at ca1 ca2
  rw [allF_len] at ca1 ca2
  have hga := fun j => @gl_at (allT L) j
  have hgN : ((((allT L).filter (·.g)).length : Nat) : Int) = ((glT (allT L) : Nat) : Int) := by unfold glT; rfl
  have hNM : ((allT L).filter (·.g)).length ≤ (allT L).length := List.length_filter_le _ _
  generalize (allT L).filter (·.g) = N at *
  clear hl1 hl2 hrt hnm hof hao
  go_enter Tryd.func8, Tryd.ntmps8
  go_wp2_with (fail); refine (awake15_c _ (hT.ext HE.out)).mono ?_; rintro e w' ⟨rfl, hE⟩; (try replace hb := hb.ext hE); (try replace hm := hm.ext hE); (try replace h1 := h1.ext hE); (try replace hM := hM.ext hE); (try replace HE := Lib.hid (HE.out.trans hE))
  clear hE
  go_wp2_with ((refine wpList_load_blk (by rfl) 37 _ rfl rfl (by first | exact h1 | exact hb) Tryd.underlying37 rfl (by kernel_rfl) ?_)); refine (crr _ (hrow _ HE.out)).mono ?_; rintro e w' ⟨rfl, hE⟩; (try replace hb := hb.ext hE); (try replace hm := hm.ext hE); (try replace h1 := h1.ext hE); (try replace hM := hM.ext hE); (try replace HE := Lib.hid (HE.out.trans hE))
  clear hE
  clear crr
  go_wp2_with ((refine wpList_load_blk (by rfl) 37 _ rfl rfl (by first | exact h1 | exact hb) Tryd.underlying37 rfl (by kernel_rfl) ?_)); refine (cae _ (hrow _ HE.out)).mono ?_; rintro e w' ⟨A3, c3, rfl, hr3, -, hE⟩; (try replace hb := hb.ext hE); (try replace hm := hm.ext hE); (try replace h1 := h1.ext hE); (try replace hM := hM.ext hE); (try replace HE := Lib.hid (HE.out.trans hE)); (try replace r0 := r0.ext hE); (try replace r1 := r1.ext hE); (try replace r2 := r2.ext hE); (try replace r3 := r3.ext hE); (try replace r4 := r4.ext hE); (try replace r5 := r5.ext hE); (try replace r6 := r6.ext hE); clear hE
  clear cae
  have hrx : ∀ W : World, Ext w' W → RowV KE W A3 (allT L) c3 := fun W h => hr3.ext h
  generalize hM : allT L = M at *
  clear hM hr3
  have b1 := h1
  have HE0 := HE
  clear h1 HE
  generalize w' = W3 at *
  go_wp2
  go_loopw [4, 5, 6, 7] (fun v4 v5 v6 v7 wr => ∃ k : Nat, k ≤ M.length ∧ v7 = .int .i64 k ∧ v6 = .int .i64 (glT (M.take k) : Nat) ∧ wr.ownsRow W3.heap.size KF.e KF.sz v4 (fsT (M.take k)).length (KF.flat (fsT (M.take k))) ∧ wr.ownsRow W3.heap.size KF.e KF.sz v5 (asT (M.take k)).length (KF.flat (asT (M.take k))) ∧ Hid (Apt v4 v5) ∧ Ext W3 wr) (fun _ _ _ v7 _ => (M.length - intOf v7).toNat)
  case atStart => exact ⟨0, by omega, rfl, by rw [List.take_zero]; unfold glT; rfl, by rw [List.take_zero]; unfold fsT; exact World.ownsRow_nil _ _ _ _, by rw [List.take_zero]; unfold asT; exact World.ownsRow_nil _ _ _ _, Lib.hid (by unfold Apt; intro g h; cases h), Ext.refl _⟩
  case round =>
    obtain ⟨k, hk, rfl, rfl, o4, o5, HP, hE⟩ := hrel
    have HB := Lib.hid hE
    clear hE
    by_cases hlt : k < M.length
    · have hkz : (k : Int) < (M.length : Int) := by omega
      obtain ⟨b, off, rfl, hb, hr4⟩ := (hrx _ (Ext.refl _)).some (by omega)
      have e2 : wr.rangeAt b (off + k * 11) (enC (M.getD k e0)).toList := rgx_ext HB.out (hr4 k hlt)
      have hft := fsT_take hlt
      have hat := asT_take hlt
      have hgt := glT_take hlt
      have hfl := fsT_len (M.take k)
      have hal := asT_len (M.take k)
      have hgl := glT_le (M.take k)
      have htl : (M.take k).length ≤ k := by rw [List.length_take]; omega
      clear hr4 hrx hk ra1 ra2 ca1 ca2 hga hgN
      have hev := hvp _ (getD_mem (d := e0) hlt)
      clear hvp
      generalize M.getD k e0 = e at *
      have x4 := rng_cell e2 4 (enC_vp e)
      have crv := fun w => rof5_c (e.vp : Int) (by omega) (by have := (hev); omega) w
      have cof : ∀ w, Calls Tryd.prog 10 #[.int .u64 (e.n : Int), .int .u64 (ofI e.vp)] w fun r w' => r = .returned (.agg (fcC (fOf e.n (vaN e)))) ∧ Ext w w' := fun w => by rw [← vaN_eq]; exact of15_c e.n (vaN e) w
      have cad : ∀ w, Calls Tryd.prog 12 #[.int .u64 (ofI e.vp)] w fun r w' => r = .returned (.agg (fcC (fAd (vaN e)))) ∧ Ext w w' := fun w => by rw [← vaN_eq]; exact addr15_c (vaN e) w
      go_wp2_with (fail); refine (crv _).mono ?_; rintro e w' ⟨rfl, hE⟩; (try replace hb := hb.ext hE); (try replace hm := hm.ext hE); (try replace h1 := h1.ext hE); (try replace hM := hM.ext hE); (try replace HE := Lib.hid (HE.out.trans hE))
      replace HB := Lib.hid (HB.out.trans hE)
      replace e2 := rgx_ext hE e2
      replace o4 := own_ext o4 hE
      replace o5 := own_ext o5 hE
      clear hE crv x4
      have x1 := rng_cell e2 1 (enC_n e)
      go_wp2_with (fail); refine (cof _).mono ?_; rintro e w' ⟨rfl, hE⟩; (try replace hb := hb.ext hE); (try replace hm := hm.ext hE); (try replace h1 := h1.ext hE); (try replace hM := hM.ext hE); (try replace HE := Lib.hid (HE.out.trans hE))
      replace HB := Lib.hid (HB.out.trans hE)
      replace e2 := rgx_ext hE e2
      replace o4 := own_ext o4 hE
      replace o5 := own_ext o5 hE
      clear hE cof x1
      generalize fOf e.n (vaN e) = f1 at *
      generalize fAd (vaN e) = f2 at *
      have hap := fun ty => append_apt kf_ok w' W3.heap.size u4 (fsT (M.take k)) o4 f1 (by show (_ + 1) * 32 ≤ _; omega) (by unfold maxLen; omega) HB.out.size u5 (asT (M.take k)) o5 (apt_symm HP.out) ty
      rw [← hft] at hap
      have he4 := fcC_size f1
      have hfo := fc_fold f1
      clear o4 o5 hft HP
      go_upto_region 12 with (at_builtin; refine wpList_append_run' _ rfl _ _ _ rfl _ _ rfl rfl _ (hap _) ?_; rintro v4 w4 ⟨o4, o5, hp, hB⟩)
      replace HB : Hid (Ext W3 w4) := Lib.hid (Below.trans HB.out hB)
      replace e2 := rgx_below hB hb e2
      clear hap he4 hfo hB
      go_wp2_with (fail); refine (cad _).mono ?_; rintro e w' ⟨rfl, hE⟩; (try replace hb := hb.ext hE); (try replace hm := hm.ext hE); (try replace h1 := h1.ext hE); (try replace hM := hM.ext hE); (try replace HE := Lib.hid (HE.out.trans hE))
      replace HB := Lib.hid (HB.out.trans hE)
      replace e2 := rgx_ext hE e2
      replace o4 := own_ext o4 hE
      replace o5 := own_ext o5 hE
      clear hE cad
      have hap := fun ty => append_apt kf_ok w' W3.heap.size u5 (asT (M.take k)) o5 f2 (by show (_ + 1) * 32 ≤ _; omega) (by unfold maxLen; omega) HB.out.size v4 (fsT (M.take (k + 1))) o4 (apt_symm hp) ty
      rw [← hat] at hap
      have he4 := fcC_size f2
      have hfo := fc_fold f2
      clear o4 o5 hat hp
      go_upto_region 13 with (at_builtin; refine wpList_append_run' _ rfl _ _ _ rfl _ _ rfl rfl _ (hap _) ?_; rintro v5 w5 ⟨o5, o4, hp, hB⟩)
      replace HB : Hid (Ext W3 w5) := Lib.hid (Below.trans HB.out hB)
      replace e2 := rgx_below hB hb e2
      clear hap he4 hfo hB
      have x2 := rng_cell e2 2 (enC_g e)
      have HP := Lib.hid hp
      have HQ := Lib.hid hgt
      clear hp hgt e2
      cases hg : e.g
      · rw [hg] at x2 HQ
        go_wp2
        go_roundw
        case rel => exact ⟨k + 1, by omega, by go_num, by rw [HQ.out]; rfl, o4, o5, HP, HB.out⟩
        case measure => simp [intOf]; omega
      · rw [hg] at x2 HQ
        go_wp2
        go_roundw
        case rel => exact ⟨k + 1, by omega, by go_num, by rw [HQ.out]; go_num, o4, o5, HP, HB.out⟩
        case measure => simp [intOf]; omega
    · obtain rfl : k = M.length := by omega
      rw [List.take_length] at o4 o5
      rw [List.take_length]
      obtain ⟨A4, c4, rfl, r4, -⟩ := own_rowv kf_ok o4
      obtain ⟨A5, c5, rfl, r5, -⟩ := own_rowv kf_ok o5
      have h1 := b1.ext HB.out
      have HE := Lib.hid (HE0.out.trans HB.out)
      clear o4 o5 HP hrx b1 HE0 HB hk hlt hvp
      go_wp2_with ((refine wpList_load_blk (by rfl) 37 _ rfl rfl (by first | exact h1 | exact hb) Tryd.underlying37 rfl (by kernel_rfl) ?_)); refine (ca1 _ _ _ (hrow _ HE.out) r4 (hT.ext HE.out)).mono ?_; rintro e w' ⟨A6, c6, rfl, r6, -, hE⟩; (try replace hb := hb.ext hE); (try replace hm := hm.ext hE); (try replace h1 := h1.ext hE); (try replace hM := hM.ext hE); (try replace HE := Lib.hid (HE.out.trans hE)); (try replace r0 := r0.ext hE); (try replace r1 := r1.ext hE); (try replace r2 := r2.ext hE); (try replace r3 := r3.ext hE); (try replace r4 := r4.ext hE); (try replace r5 := r5.ext hE); (try replace r6 := r6.ext hE); clear hE
      go_wp2_with (fail); refine (ra1 _ _ _ r6).mono ?_; rintro e w' ⟨A7, c7, rfl, r3, -, hE⟩; (try replace hb := hb.ext hE); (try replace hm := hm.ext hE); (try replace h1 := h1.ext hE); (try replace hM := hM.ext hE); (try replace HE := Lib.hid (HE.out.trans hE)); (try replace r0 := r0.ext hE); (try replace r1 := r1.ext hE); (try replace r2 := r2.ext hE); (try replace r3 := r3.ext hE); (try replace r4 := r4.ext hE); (try replace r5 := r5.ext hE); (try replace r6 := r6.ext hE); clear hE
      clear ca1 ra1 r4 r6
      have heq : (((N.length : Nat) : Int) == ((glT M : Nat) : Int)) = true := by rw [hgN]; simp
      clear hgN
      have b1 := h1
      have q3 := r3
      have q5 := r5
      have HE0 := HE
      clear h1 r3 r5 HE
      go_wp2
      go_loopw [10] (fun i wx => ∃ j : Nat, j ≤ N.length ∧ i = .int .i64 j ∧ Ext w' wx) (fun i _ => (N.length - intOf i).toNat)
      case atStart => exact ⟨0, by omega, rfl, Ext.refl _⟩
      case round =>
        obtain ⟨j, hj, rfl, hE⟩ := hrel
        have HB := Lib.hid hE
        clear hE
        by_cases hlt : j < N.length
        · have hjz : (j : Int) < (N.length : Int) := by omega
          obtain ⟨b, off, rfl, hb, hr4⟩ := (q3.ext HB.out).some (by omega)
          have e2 : wr.rangeAt b (off + j * 11) (enC (N.getD j e0)).toList := hr4 j hlt
          have x2 := rng_cell e2 2 (enC_g _)
          rw [hga j hlt] at x2
          clear hr4 e2 hga ca2 ra2 hj
          go_wp2
          go_roundw
          case rel => exact ⟨j + 1, by omega, by go_num, HB.out⟩
          case measure => simp [intOf]; omega
        · obtain rfl : j = N.length := by omega
          have h1 := b1.ext HB.out
          have r5 := q5.ext HB.out
          have HE := Lib.hid (HE0.out.trans HB.out)
          clear b1 q3 q5 HE0 HB hga hlt hj
          go_wp2_with ((refine wpList_load_blk (by rfl) 37 _ rfl rfl (by first | exact h1 | exact hb) Tryd.underlying37 rfl (by kernel_rfl) ?_)); refine (ca2 _ _ _ (hrow _ HE.out) r5 (hT.ext HE.out)).mono ?_; rintro e w' ⟨A8, c8, rfl, r6, -, hE⟩; (try replace hb := hb.ext hE); (try replace hm := hm.ext hE); (try replace h1 := h1.ext hE); (try replace hM := hM.ext hE); (try replace HE := Lib.hid (HE.out.trans hE)); (try replace r0 := r0.ext hE); (try replace r1 := r1.ext hE); (try replace r2 := r2.ext hE); (try replace r3 := r3.ext hE); (try replace r4 := r4.ext hE); (try replace r5 := r5.ext hE); (try replace r6 := r6.ext hE); clear hE
          go_wp2_with (fail); refine (ra2 _ _ _ r6).mono ?_; rintro e w' ⟨A9, c9, rfl, -, -, hE⟩; (try replace hb := hb.ext hE); (try replace hm := hm.ext hE); (try replace h1 := h1.ext hE); (try replace hM := hM.ext hE); (try replace HE := Lib.hid (HE.out.trans hE)); (try replace r0 := r0.ext hE); (try replace r1 := r1.ext hE); (try replace r2 := r2.ext hE); (try replace r3 := r3.ext hE); (try replace r4 := r4.ext hE); (try replace r5 := r5.ext hE); (try replace r6 := r6.ext hE); clear hE
          go_wp2
          go_ret
          exact ⟨by first | rfl | simp, HE.out⟩
end Go.Proofs.YtlimipjfdecbfaaDoor
