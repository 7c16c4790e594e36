/- SetKeeps. -/
import Derived.Test.YtbncaghcokmefaaDoorLaw13a
import Derived.Deep.Cut
import Derived.Deep.CutRange
namespace Go.Proofs.YtbncaghcokmefaaDoor
open Go.ChangeShapes Go.WideShapes Go.ChangeAt Go.RowKit
set_option linter.unusedVariables false
set_option linter.unusedSimpArgs false

theorem ok_of {s : St} (ht : s.t < 256) (h : ∀ k, k < 4 → (s.ws.at k).ok) : s.ok := ⟨⟨h 0 (by decide), h 1 (by decide), h 2 (by decide), h 3 (by decide)⟩, ht⟩
theorem putS_ok {s : St} (hs : s.ok) (ht : s.t < 8) {e : En} (he : e.ok) (v : Int) : (putS e v s).ok := ok_of (by rw [putS_t]; have := to_lt ht (wayS e v s); omega) fun k hk => by
  rw [putS_at ht hk]
  split
  · exact he
  split
  · exact e0_ok
  · exact at_ok hs.1 hk
/-- if B, then P -/
def Jp (B : Bool) (P : Prop) : Prop := B = true → P
theorem jp_no (P : Prop) : Jp false P := fun h => by cases h
theorem jp_of {B : Bool} {P : Prop} (h : P) : Jp B P := fun _ => h
theorem jp_out {B : Bool} {P : Prop} (h : Jp B P) (hb : B = true) : P := h hb
/-- no way is told, and B: so Z -/
def Jq (v : Int) (B Z : Bool) : Prop := ¬ (0 ≤ v ∧ v ≤ 3) → B = true → Z = true
theorem jq_of {v : Int} {B Z : Bool} (h : ¬ (0 ≤ v ∧ v ≤ 3) → B = true → Z = true) : Jq v B Z := h
theorem jq_out {v : Int} {B Z : Bool} (h : Jq v B Z) (hv : ¬ (0 ≤ v ∧ v ≤ 3)) (hb : B = true) : Z = true := h hv hb
attribute [irreducible] Jp Jq
set_option maxRecDepth 100000 in
set_option maxHeartbeats 8000000 in
theorem SetKeeps_w (s : St) (e : En) (hs : s.ok) (he : e.ok) (v : Int) (w : World) (hT : Lays w) :
    Calls Tryd.prog 4 #[.agg (stC s), .agg (enC e), .int .i64 v] w fun r w' => r = .returned (.bool true) ∧ Ext w w' := by
  obtain ⟨h1, h2⟩ := blk_two (Ext.refl ((w.alloc (.cells (stC s) 29)).alloc (.cells (enC e) 26)))
  have HE := Lib.hid (((Ext.refl w).alloc (.cells (stC s) 29)).alloc (.cells (enC e) 26))
  have HT := Lib.hid (hT.ext HE.out)
  have rrs := fun w => rright13_c s w
  cases hr : rightS s
  · rw [hr] at rrs
    go_enter Tryd.func4, Tryd.ntmps4
    go_wp2_with (fail); refine (awake13_c _ HT.out).mono ?_; rintro e w' ⟨rfl, hE⟩; (try replace hb := hb.ext hE); (try replace hm := hm.ext hE); (try replace h1 := h1.ext hE); (try replace h2 := h2.ext hE); (try replace h3 := h3.ext hE); (try replace HT := Lib.hid (HT.out.ext hE)); (try replace HE := Lib.hid (HE.out.trans hE))
    clear hE
    go_wp2_with ((refine wpList_load_blk (by rfl) 29 _ rfl rfl (by first | exact h1 | exact h2 | exact h3 | exact hb) Tryd.underlying29 rfl (by kernel_rfl) ?_)); refine (rrs _).mono ?_; rintro e w' ⟨rfl, hE⟩; (try replace hb := hb.ext hE); (try replace hm := hm.ext hE); (try replace h1 := h1.ext hE); (try replace h2 := h2.ext hE); (try replace h3 := h3.ext hE); (try replace HT := Lib.hid (HT.out.ext hE)); (try replace HE := Lib.hid (HE.out.trans hE))
    clear hE
    go_wp2_with ((refine wpList_load_blk (by rfl) 26 _ rfl rfl (by first | exact h1 | exact h2 | exact h3 | exact hb) Tryd.underlying26 rfl (by kernel_rfl) ?_)); refine (awake13_c _ HT.out).mono ?_; rintro e w' ⟨rfl, hE⟩; (try replace hb := hb.ext hE); (try replace hm := hm.ext hE); (try replace h1 := h1.ext hE); (try replace h2 := h2.ext hE); (try replace h3 := h3.ext hE); (try replace HT := Lib.hid (HT.out.ext hE)); (try replace HE := Lib.hid (HE.out.trans hE))
    clear hE
    go_wp2
    go_ret
    exact ⟨rfl, HE.out⟩
  rw [hr] at rrs
  have rme := fun w => rmay12_c e w
  cases hm : mayE e
  · rw [hm] at rme
    go_enter Tryd.func4, Tryd.ntmps4
    go_wp2_with (fail); refine (awake13_c _ HT.out).mono ?_; rintro e w' ⟨rfl, hE⟩; (try replace hb := hb.ext hE); (try replace hm := hm.ext hE); (try replace h1 := h1.ext hE); (try replace h2 := h2.ext hE); (try replace h3 := h3.ext hE); (try replace HT := Lib.hid (HT.out.ext hE)); (try replace HE := Lib.hid (HE.out.trans hE))
    clear hE
    go_wp2_with ((refine wpList_load_blk (by rfl) 29 _ rfl rfl (by first | exact h1 | exact h2 | exact h3 | exact hb) Tryd.underlying29 rfl (by kernel_rfl) ?_)); refine (rrs _).mono ?_; rintro e w' ⟨rfl, hE⟩; (try replace hb := hb.ext hE); (try replace hm := hm.ext hE); (try replace h1 := h1.ext hE); (try replace h2 := h2.ext hE); (try replace h3 := h3.ext hE); (try replace HT := Lib.hid (HT.out.ext hE)); (try replace HE := Lib.hid (HE.out.trans hE))
    clear hE
    go_wp2_with ((refine wpList_load_blk (by rfl) 26 _ rfl rfl (by first | exact h1 | exact h2 | exact h3 | exact hb) Tryd.underlying26 rfl (by kernel_rfl) ?_)); refine (rme _).mono ?_; rintro e w' ⟨rfl, hE⟩; (try replace hb := hb.ext hE); (try replace hm := hm.ext hE); (try replace h1 := h1.ext hE); (try replace h2 := h2.ext hE); (try replace h3 := h3.ext hE); (try replace HT := Lib.hid (HT.out.ext hE)); (try replace HE := Lib.hid (HE.out.trans hE))
    clear hE
    go_wp2_with ((refine wpList_load_blk (by rfl) 26 _ rfl rfl (by first | exact h1 | exact h2 | exact h3 | exact hb) Tryd.underlying26 rfl (by kernel_rfl) ?_)); refine (awake13_c _ HT.out).mono ?_; rintro e w' ⟨rfl, hE⟩; (try replace hb := hb.ext hE); (try replace hm := hm.ext hE); (try replace h1 := h1.ext hE); (try replace h2 := h2.ext hE); (try replace h3 := h3.ext hE); (try replace HT := Lib.hid (HT.out.ext hE)); (try replace HE := Lib.hid (HE.out.trans hE))
    clear hE
    go_wp2
    go_ret
    exact ⟨rfl, HE.out⟩
  rw [hm] at rme
  cases hv : e.v
  · skip
    go_enter Tryd.func4, Tryd.ntmps4
    go_wp2_with (fail); refine (awake13_c _ HT.out).mono ?_; rintro e w' ⟨rfl, hE⟩; (try replace hb := hb.ext hE); (try replace hm := hm.ext hE); (try replace h1 := h1.ext hE); (try replace h2 := h2.ext hE); (try replace h3 := h3.ext hE); (try replace HT := Lib.hid (HT.out.ext hE)); (try replace HE := Lib.hid (HE.out.trans hE))
    clear hE
    go_wp2_with ((refine wpList_load_blk (by rfl) 29 _ rfl rfl (by first | exact h1 | exact h2 | exact h3 | exact hb) Tryd.underlying29 rfl (by kernel_rfl) ?_)); refine (rrs _).mono ?_; rintro e w' ⟨rfl, hE⟩; (try replace hb := hb.ext hE); (try replace hm := hm.ext hE); (try replace h1 := h1.ext hE); (try replace h2 := h2.ext hE); (try replace h3 := h3.ext hE); (try replace HT := Lib.hid (HT.out.ext hE)); (try replace HE := Lib.hid (HE.out.trans hE))
    clear hE
    go_wp2_with ((refine wpList_load_blk (by rfl) 26 _ rfl rfl (by first | exact h1 | exact h2 | exact h3 | exact hb) Tryd.underlying26 rfl (by kernel_rfl) ?_)); refine (rme _).mono ?_; rintro e w' ⟨rfl, hE⟩; (try replace hb := hb.ext hE); (try replace hm := hm.ext hE); (try replace h1 := h1.ext hE); (try replace h2 := h2.ext hE); (try replace h3 := h3.ext hE); (try replace HT := Lib.hid (HT.out.ext hE)); (try replace HE := Lib.hid (HE.out.trans hE))
    clear hE
    have x0 := h2.en_v
    rw [hv] at x0
    go_wp2_with ((refine wpList_load_blk (by rfl) 26 _ rfl rfl (by first | exact h1 | exact h2 | exact h3 | exact hb) Tryd.underlying26 rfl (by kernel_rfl) ?_)); refine (awake13_c _ HT.out).mono ?_; rintro e w' ⟨rfl, hE⟩; (try replace hb := hb.ext hE); (try replace hm := hm.ext hE); (try replace h1 := h1.ext hE); (try replace h2 := h2.ext hE); (try replace h3 := h3.ext hE); (try replace HT := Lib.hid (HT.out.ext hE)); (try replace HE := Lib.hid (HE.out.trans hE))
    clear hE
    go_wp2
    go_ret
    exact ⟨rfl, HE.out⟩
  have cpt := fun w h => put13_c s (right_t hr) e v w h
  have K := kept hr hm hv v
  have xok := putS_ok hs (right_t hr) he v
  have el := may_lv hm
  have em := he.2.2.1
  have en1 := he.1
  generalize putS e v s = x at *
  generalize wayS e v s = i at *
  have il := K.lt
  have iz : (i : Int) < 4 := by omega
  have crx := fun w h => right13_c x xok w h
  rw [K.right] at crx
  have cus := fun w => runlike13_c s w
  have cux := fun w => runlike13_c x w
  have xo := stC_at x il
  rw [K.own] at xo
  have cof := fun w => rof5_c (e.vp : Int) (by omega) (by omega) w
  have b0 := of_lt (e.vp : Int)
  have cfi := fun w h => find13_c x (fun k hk _ => may_lv (right_may K.right hk)) (e.n : Int) (ofI e.vp) e.l (by omega) (by omega) b0.1 b0.2 w h
  rw [K.fb] at cfi
  have hfi := K.fi
  have hvx := fun w => rvic_c x.t (right_t K.right) w
  have hvi := K.vi
  have hvl : viN x.t < 4 := vi_lt (right_t K.right)
  have hun := K.unl
  have hoth := K.other
  have hvic := K.vic
  have hemp := K.empty
  clear K hr hm xok hs he el em en1
  generalize fiW (hitE (e.n : Int) (ofI e.vp) e.l) x.ws = fi at cfi hfi
  generalize ofI (e.vp : Int) = oa at cof cfi
  have HV := Lib.hid hv
  clear hv
  go_enter Tryd.func4, Tryd.ntmps4
  go_wp2_with (fail); refine (awake13_c _ HT.out).mono ?_; rintro e w' ⟨rfl, hE⟩; (try replace hb := hb.ext hE); (try replace hm := hm.ext hE); (try replace h1 := h1.ext hE); (try replace h2 := h2.ext hE); (try replace h3 := h3.ext hE); (try replace HT := Lib.hid (HT.out.ext hE)); (try replace HE := Lib.hid (HE.out.trans hE))
  clear hE
  go_wp2_with ((refine wpList_load_blk (by rfl) 29 _ rfl rfl (by first | exact h1 | exact h2 | exact h3 | exact hb) Tryd.underlying29 rfl (by kernel_rfl) ?_)); refine (rrs _).mono ?_; rintro e w' ⟨rfl, hE⟩; (try replace hb := hb.ext hE); (try replace hm := hm.ext hE); (try replace h1 := h1.ext hE); (try replace h2 := h2.ext hE); (try replace h3 := h3.ext hE); (try replace HT := Lib.hid (HT.out.ext hE)); (try replace HE := Lib.hid (HE.out.trans hE))
  clear hE
  go_wp2_with ((refine wpList_load_blk (by rfl) 26 _ rfl rfl (by first | exact h1 | exact h2 | exact h3 | exact hb) Tryd.underlying26 rfl (by kernel_rfl) ?_)); refine (rme _).mono ?_; rintro e w' ⟨rfl, hE⟩; (try replace hb := hb.ext hE); (try replace hm := hm.ext hE); (try replace h1 := h1.ext hE); (try replace h2 := h2.ext hE); (try replace h3 := h3.ext hE); (try replace HT := Lib.hid (HT.out.ext hE)); (try replace HE := Lib.hid (HE.out.trans hE))
  clear hE
  have x0 := h2.en_v
  rw [HV.out] at x0
  go_wp2_with ((first | (refine wpList_load_blk (by rfl) 29 _ rfl rfl (by first | exact h1 | exact h2 | exact h3 | exact hb) Tryd.underlying29 rfl (by kernel_rfl) ?_) | (refine wpList_load_blk (by rfl) 26 _ rfl rfl (by first | exact h1 | exact h2 | exact h3 | exact hb) Tryd.underlying26 rfl (by kernel_rfl) ?_))); refine (cpt _ HT.out).mono ?_; rintro e w' ⟨rfl, hE⟩; (try replace hb := hb.ext hE); (try replace hm := hm.ext hE); (try replace h1 := h1.ext hE); (try replace h2 := h2.ext hE); (try replace h3 := h3.ext hE); (try replace HT := Lib.hid (HT.out.ext hE)); (try replace HE := Lib.hid (HE.out.trans hE))
  clear hE x0 cpt rme rrs
  have h3 := Blk.new w' 29 (stC x)
  have hE := (Ext.refl w').alloc (.cells (stC x) 29)
  replace h1 := h1.ext hE
  replace h2 := h2.ext hE
  replace HT := Lib.hid (HT.out.ext hE)
  replace HE := Lib.hid (HE.out.trans hE)
  clear hE
  go_wp2_with (refine wpList_store_new rfl 29 _ _ rfl (stC _) _ _ rfl rfl (st_info _) (by simp [stC_size]) (stC_one _) ?_)
  generalize w'.heap.size = g3 at *
  generalize w'.alloc (.cells (stC x) 29) = W1 at *
  clear b0
  have d0 : decide ((i : Int) < 0) = false := by simp
  have d3 : decide ((3 : Int) < (i : Int)) = false := by simp; omega
  have hne : ∀ w, (binOp .neq 26 (.agg (enC e)) (.agg (enC e))).run Tryd.prog w = .ok (.bool false) w := (fun w => run_b (neq_en w _ _) (dec_nots _))
  go_wp2_with fail
  go_cut [66] from 39 to 66 (fun c wx => c = .bool false ∧ Blk wx w.heap.size 29 (stC s) ∧ Blk wx (w.heap.size + 1) 26 (enC e) ∧ Blk wx g3 29 (stC x) ∧ Ext w wx)
  case first =>
    cases hu : unlS s.ws
    · rw [hu] at cus
      clear hun cux hu
      go_wp2_with fail
      (try replace hb := Blk.drew hb); (try replace hm := Blk.drew hm); (try replace h1 := Blk.drew h1); (try replace h2 := Blk.drew h2); (try replace h3 := Blk.drew h3); replace HE := Lib.hid HE.out.drew
      replace HT := Lib.hid (HT.out.ext (Ext.refl _).drew)
      refine wp_region_seq [(0, false), (1, false), (2, false), (3, false), (4, false), (5, false), (6, false), (7, false), (8, false), (9, false), (10, false), (11, false), (12, false), (13, false), (14, false), (15, false), (16, true), (17, false), (18, false), (19, false), (20, false), (21, true), (22, false), (23, false), (24, true), (25, false), (26, false), (27, false)] Ext (by kernel_rfl) (by kernel_rfl) Ext.refl (fun _ _ _ => Ext.trans) ?_; simp only [List.map, nth_z, nth_s]
      (try simp only [Act.put, List.setIfInBounds_toArray, List.set_cons_zero, List.set_cons_succ])
      (repeat (first | (refine seq_skip (by rfl) ?_; intro K hK; simp only [Act.put, List.setIfInBounds_toArray, List.set_cons_zero, List.set_cons_succ]; refine hK _ ?_; clear hK K) | (refine seq_skipc (by rfl) ?_; intro K hK; simp only [Act.put, List.setIfInBounds_toArray, List.set_cons_zero, List.set_cons_succ]; refine hK _ ?_; clear hK K) | (refine seq_read (by rfl) (by rfl) ?_; intro K hK; go_big_quiet_op; first | go_big_quiet_on | (refine ⟨_, fun _ _ => rfl, ?_⟩; go_big_quiet_on))))
      refine seq_load_part rfl rfl (fun x hx => Blk.ext (h3) hx) (xo) rfl Tryd.underlying26 (en_info _) (by rfl) ?_; intro K hK; simp only [Act.put, List.setIfInBounds_toArray, List.set_cons_zero, List.set_cons_succ]; refine hK _ ?_; clear hK K
      refine seq_load rfl rfl (fun x hx => Blk.ext (h2) hx) rfl Tryd.underlying26 (by kernel_rfl) (by rfl) ?_; intro K hK; simp only [Act.put, List.setIfInBounds_toArray, List.set_cons_zero, List.set_cons_succ]; refine hK _ ?_; clear hK K
      refine seq_cmp rfl rfl rfl (en_guard) (hne) (by rfl) ?_; intro K hK; simp only [Act.put, List.setIfInBounds_toArray, List.set_cons_zero, List.set_cons_succ]; refine hK _ ?_; clear hK K
      (repeat (first | (refine seq_skip (by rfl) ?_; intro K hK; simp only [Act.put, List.setIfInBounds_toArray, List.set_cons_zero, List.set_cons_succ]; refine hK _ ?_; clear hK K) | (refine seq_skipc (by rfl) ?_; intro K hK; simp only [Act.put, List.setIfInBounds_toArray, List.set_cons_zero, List.set_cons_succ]; refine hK _ ?_; clear hK K) | (refine seq_read (by rfl) (by rfl) ?_; intro K hK; go_big_quiet_op; first | go_big_quiet_on | (refine ⟨_, fun _ _ => rfl, ?_⟩; go_big_quiet_on))))
      refine seq_load rfl rfl (fun x hx => Blk.ext (h3) hx) rfl Tryd.underlying29 (by kernel_rfl) (by rfl) ?_; intro K hK; simp only [Act.put, List.setIfInBounds_toArray, List.set_cons_zero, List.set_cons_succ]; refine hK _ ?_; clear hK K
      refine seq_call (crx _ HT.out) rfl Tryd.func8 (by kernel_rfl) (by kernel_rfl) (by rfl) (by rfl) ?_; intro K hK; rintro e w' ⟨rfl, hE⟩; refine ⟨_, rfl, hE, ?_⟩; simp only [Act.put, List.setIfInBounds_toArray, List.set_cons_zero, List.set_cons_succ]; refine hK _ _ ?_; clear hK K; (try replace hb := hb.ext hE); (try replace hm := hm.ext hE); (try replace h1 := h1.ext hE); (try replace h2 := h2.ext hE); (try replace h3 := h3.ext hE); (try replace HT := Lib.hid (HT.out.ext hE)); (try replace HE := Lib.hid (HE.out.trans hE))
      clear hE crx
      (repeat (first | (refine seq_skip (by rfl) ?_; intro K hK; simp only [Act.put, List.setIfInBounds_toArray, List.set_cons_zero, List.set_cons_succ]; refine hK _ ?_; clear hK K) | (refine seq_skipc (by rfl) ?_; intro K hK; simp only [Act.put, List.setIfInBounds_toArray, List.set_cons_zero, List.set_cons_succ]; refine hK _ ?_; clear hK K) | (refine seq_read (by rfl) (by rfl) ?_; intro K hK; go_big_quiet_op; first | go_big_quiet_on | (refine ⟨_, fun _ _ => rfl, ?_⟩; go_big_quiet_on))))
      refine seq_load rfl rfl (fun x hx => Blk.ext (h1) hx) rfl Tryd.underlying29 (by kernel_rfl) (by rfl) ?_; intro K hK; simp only [Act.put, List.setIfInBounds_toArray, List.set_cons_zero, List.set_cons_succ]; refine hK _ ?_; clear hK K
      refine seq_call (cus _) rfl Tryd.func22 (by kernel_rfl) (by kernel_rfl) (by rfl) (by rfl) ?_; intro K hK; rintro e w' ⟨rfl, hE⟩; refine ⟨_, rfl, hE, ?_⟩; simp only [Act.put, List.setIfInBounds_toArray, List.set_cons_zero, List.set_cons_succ]; refine hK _ _ ?_; clear hK K; (try replace hb := hb.ext hE); (try replace hm := hm.ext hE); (try replace h1 := h1.ext hE); (try replace h2 := h2.ext hE); (try replace h3 := h3.ext hE); (try replace HT := Lib.hid (HT.out.ext hE)); (try replace HE := Lib.hid (HE.out.trans hE))
      clear hE cus
      (repeat (first | (refine seq_skip (by rfl) ?_; intro K hK; simp only [Act.put, List.setIfInBounds_toArray, List.set_cons_zero, List.set_cons_succ]; refine hK _ ?_; clear hK K) | (refine seq_skipc (by rfl) ?_; intro K hK; simp only [Act.put, List.setIfInBounds_toArray, List.set_cons_zero, List.set_cons_succ]; refine hK _ ?_; clear hK K) | (refine seq_read (by rfl) (by rfl) ?_; intro K hK; go_big_quiet_op; first | go_big_quiet_on | (refine ⟨_, fun _ _ => rfl, ?_⟩; go_big_quiet_on))))
      refine seq_done ?_
      go_wp2_with fail
      go_meet
      case rel => exact ⟨rfl, h1, h2, h3, HE.out⟩
    · rw [hun hu] at cux
      rw [hu] at cus
      clear hun hu
      go_wp2_with fail
      (try replace hb := Blk.drew hb); (try replace hm := Blk.drew hm); (try replace h1 := Blk.drew h1); (try replace h2 := Blk.drew h2); (try replace h3 := Blk.drew h3); replace HE := Lib.hid HE.out.drew
      replace HT := Lib.hid (HT.out.ext (Ext.refl _).drew)
      refine wp_region_seq [(0, false), (1, false), (2, false), (3, false), (4, false), (5, false), (6, false), (7, false), (8, false), (9, false), (10, false), (11, false), (12, false), (13, false), (14, false), (15, false), (16, true), (17, false), (18, false), (19, false), (20, false), (21, true), (22, false), (23, false), (24, true), (25, false), (26, false), (27, false)] Ext (by kernel_rfl) (by kernel_rfl) Ext.refl (fun _ _ _ => Ext.trans) ?_; simp only [List.map, nth_z, nth_s]
      (try simp only [Act.put, List.setIfInBounds_toArray, List.set_cons_zero, List.set_cons_succ])
      (repeat (first | (refine seq_skip (by rfl) ?_; intro K hK; simp only [Act.put, List.setIfInBounds_toArray, List.set_cons_zero, List.set_cons_succ]; refine hK _ ?_; clear hK K) | (refine seq_skipc (by rfl) ?_; intro K hK; simp only [Act.put, List.setIfInBounds_toArray, List.set_cons_zero, List.set_cons_succ]; refine hK _ ?_; clear hK K) | (refine seq_read (by rfl) (by rfl) ?_; intro K hK; go_big_quiet_op; first | go_big_quiet_on | (refine ⟨_, fun _ _ => rfl, ?_⟩; go_big_quiet_on))))
      refine seq_load_part rfl rfl (fun x hx => Blk.ext (h3) hx) (xo) rfl Tryd.underlying26 (en_info _) (by rfl) ?_; intro K hK; simp only [Act.put, List.setIfInBounds_toArray, List.set_cons_zero, List.set_cons_succ]; refine hK _ ?_; clear hK K
      refine seq_load rfl rfl (fun x hx => Blk.ext (h2) hx) rfl Tryd.underlying26 (by kernel_rfl) (by rfl) ?_; intro K hK; simp only [Act.put, List.setIfInBounds_toArray, List.set_cons_zero, List.set_cons_succ]; refine hK _ ?_; clear hK K
      refine seq_cmp rfl rfl rfl (en_guard) (hne) (by rfl) ?_; intro K hK; simp only [Act.put, List.setIfInBounds_toArray, List.set_cons_zero, List.set_cons_succ]; refine hK _ ?_; clear hK K
      (repeat (first | (refine seq_skip (by rfl) ?_; intro K hK; simp only [Act.put, List.setIfInBounds_toArray, List.set_cons_zero, List.set_cons_succ]; refine hK _ ?_; clear hK K) | (refine seq_skipc (by rfl) ?_; intro K hK; simp only [Act.put, List.setIfInBounds_toArray, List.set_cons_zero, List.set_cons_succ]; refine hK _ ?_; clear hK K) | (refine seq_read (by rfl) (by rfl) ?_; intro K hK; go_big_quiet_op; first | go_big_quiet_on | (refine ⟨_, fun _ _ => rfl, ?_⟩; go_big_quiet_on))))
      refine seq_load rfl rfl (fun x hx => Blk.ext (h3) hx) rfl Tryd.underlying29 (by kernel_rfl) (by rfl) ?_; intro K hK; simp only [Act.put, List.setIfInBounds_toArray, List.set_cons_zero, List.set_cons_succ]; refine hK _ ?_; clear hK K
      refine seq_call (crx _ HT.out) rfl Tryd.func8 (by kernel_rfl) (by kernel_rfl) (by rfl) (by rfl) ?_; intro K hK; rintro e w' ⟨rfl, hE⟩; refine ⟨_, rfl, hE, ?_⟩; simp only [Act.put, List.setIfInBounds_toArray, List.set_cons_zero, List.set_cons_succ]; refine hK _ _ ?_; clear hK K; (try replace hb := hb.ext hE); (try replace hm := hm.ext hE); (try replace h1 := h1.ext hE); (try replace h2 := h2.ext hE); (try replace h3 := h3.ext hE); (try replace HT := Lib.hid (HT.out.ext hE)); (try replace HE := Lib.hid (HE.out.trans hE))
      clear hE crx
      (repeat (first | (refine seq_skip (by rfl) ?_; intro K hK; simp only [Act.put, List.setIfInBounds_toArray, List.set_cons_zero, List.set_cons_succ]; refine hK _ ?_; clear hK K) | (refine seq_skipc (by rfl) ?_; intro K hK; simp only [Act.put, List.setIfInBounds_toArray, List.set_cons_zero, List.set_cons_succ]; refine hK _ ?_; clear hK K) | (refine seq_read (by rfl) (by rfl) ?_; intro K hK; go_big_quiet_op; first | go_big_quiet_on | (refine ⟨_, fun _ _ => rfl, ?_⟩; go_big_quiet_on))))
      refine seq_load rfl rfl (fun x hx => Blk.ext (h1) hx) rfl Tryd.underlying29 (by kernel_rfl) (by rfl) ?_; intro K hK; simp only [Act.put, List.setIfInBounds_toArray, List.set_cons_zero, List.set_cons_succ]; refine hK _ ?_; clear hK K
      refine seq_call (cus _) rfl Tryd.func22 (by kernel_rfl) (by kernel_rfl) (by rfl) (by rfl) ?_; intro K hK; rintro e w' ⟨rfl, hE⟩; refine ⟨_, rfl, hE, ?_⟩; simp only [Act.put, List.setIfInBounds_toArray, List.set_cons_zero, List.set_cons_succ]; refine hK _ _ ?_; clear hK K; (try replace hb := hb.ext hE); (try replace hm := hm.ext hE); (try replace h1 := h1.ext hE); (try replace h2 := h2.ext hE); (try replace h3 := h3.ext hE); (try replace HT := Lib.hid (HT.out.ext hE)); (try replace HE := Lib.hid (HE.out.trans hE))
      clear hE cus
      (repeat (first | (refine seq_skip (by rfl) ?_; intro K hK; simp only [Act.put, List.setIfInBounds_toArray, List.set_cons_zero, List.set_cons_succ]; refine hK _ ?_; clear hK K) | (refine seq_skipc (by rfl) ?_; intro K hK; simp only [Act.put, List.setIfInBounds_toArray, List.set_cons_zero, List.set_cons_succ]; refine hK _ ?_; clear hK K) | (refine seq_read (by rfl) (by rfl) ?_; intro K hK; go_big_quiet_op; first | go_big_quiet_on | (refine ⟨_, fun _ _ => rfl, ?_⟩; go_big_quiet_on))))
      refine seq_load rfl rfl (fun x hx => Blk.ext (h3) hx) rfl Tryd.underlying29 (by kernel_rfl) (by rfl) ?_; intro K hK; simp only [Act.put, List.setIfInBounds_toArray, List.set_cons_zero, List.set_cons_succ]; refine hK _ ?_; clear hK K
      refine seq_call (cux _) rfl Tryd.func22 (by kernel_rfl) (by kernel_rfl) (by rfl) (by rfl) ?_; intro K hK; rintro e w' ⟨rfl, hE⟩; refine ⟨_, rfl, hE, ?_⟩; simp only [Act.put, List.setIfInBounds_toArray, List.set_cons_zero, List.set_cons_succ]; refine hK _ _ ?_; clear hK K; (try replace hb := hb.ext hE); (try replace hm := hm.ext hE); (try replace h1 := h1.ext hE); (try replace h2 := h2.ext hE); (try replace h3 := h3.ext hE); (try replace HT := Lib.hid (HT.out.ext hE)); (try replace HE := Lib.hid (HE.out.trans hE))
      clear hE cux
      (repeat (first | (refine seq_skip (by rfl) ?_; intro K hK; simp only [Act.put, List.setIfInBounds_toArray, List.set_cons_zero, List.set_cons_succ]; refine hK _ ?_; clear hK K) | (refine seq_skipc (by rfl) ?_; intro K hK; simp only [Act.put, List.setIfInBounds_toArray, List.set_cons_zero, List.set_cons_succ]; refine hK _ ?_; clear hK K) | (refine seq_read (by rfl) (by rfl) ?_; intro K hK; go_big_quiet_op; first | go_big_quiet_on | (refine ⟨_, fun _ _ => rfl, ?_⟩; go_big_quiet_on))))
      refine seq_done ?_
      go_wp2_with fail
      go_meet
      case rel => exact ⟨rfl, h1, h2, h3, HE.out⟩
  case rest =>
    clear h1 h2 h3 HE HT crx cus cux hun
    obtain ⟨rfl, h1, h2, h3, hE⟩ := hcut
    have HE := Lib.hid hE
    clear hE
    go_wp2
    go_loopw [9, 10] (fun b c wx => ∃ (B : Bool) (k : Nat), k ≤ 4 ∧ b = .bool B ∧ c = .int .i64 k ∧ Hid (Jp B (∃ u, u < 4 ∧ (!(s.ws.at u).v || sameE e (s.ws.at u)) = true)) ∧ Blk wx w.heap.size 29 (stC s) ∧ Blk wx (w.heap.size + 1) 26 (enC e) ∧ Blk wx g3 29 (stC x) ∧ Ext w wx) (fun _ c _ => (4 - intOf c).toNat)
    case atStart => exact ⟨false, 0, by omega, rfl, rfl, Lib.hid (jp_no _), h1, h2, h3, HE.out⟩
    case round =>
      clear h1 h2 h3 HE
      obtain ⟨B, k, hk, rfl, rfl, J, h1, h2, h3, hE⟩ := hrel
      have HE := Lib.hid hE
      clear hE
      by_cases hlt : k < 4
      · have hkz : (k : Int) < 4 := by omega
        have hat := stC_at s hlt
        have hax := stC_at x hlt
        have hx0 : ∀ W : World, Blk W w.heap.size 29 (stC s) → W.cell? ⟨w.heap.size, k * 11, none⟩ = some (.bool (s.ws.at k).v) := fun W h => by
          have x0 := h.way hlt (i := 0) (by decide)
          rw [enC_v] at x0
          exact x0
        have hy0 : ∀ W : World, Blk W g3 29 (stC x) → W.cell? ⟨g3, k * 11, none⟩ = some (.bool (x.ws.at k).v) := fun W h => by
          have x0 := h.way hlt (i := 0) (by decide)
          rw [enC_v] at x0
          exact x0
        have hsm := fun w => same13_c e (s.ws.at k) w
        have hJ : (!(s.ws.at k).v || sameE e (s.ws.at k)) = true → Hid (Jp true (∃ u, u < 4 ∧ (!(s.ws.at u).v || sameE e (s.ws.at u)) = true)) := fun h => Lib.hid (jp_of ⟨k, hlt, h⟩)
        have hJB : B = true → Hid (Jp true (∃ u, u < 4 ∧ (!(s.ws.at u).v || sameE e (s.ws.at u)) = true)) := fun h => Lib.hid (jp_of (jp_out J.out h))
        have hJF : Hid (Jp false (∃ u, u < 4 ∧ (!(s.ws.at u).v || sameE e (s.ws.at u)) = true)) := Lib.hid (jp_no _)
        have hox := hoth k hlt
        have hvb : sameE e (s.ws.at k) = true → (s.ws.at k).v = true := fun h => (same_v h).2
        clear J hoth hemp hvic hvx hvi hfi cof cfi xo hne d0 d3 HV hk
        generalize s.ws.at k = f at hat hx0 hsm hJ hox hvb
        generalize x.ws.at k = g at hax hy0 hox
        go_wp2_with fail
        go_cut [9] from 67 to 137 (fun c wx => ∃ B2 : Bool, c = .bool B2 ∧ Hid (Jp B2 (∃ u, u < 4 ∧ (!(s.ws.at u).v || sameE e (s.ws.at u)) = true)) ∧ Blk wx w.heap.size 29 (stC s) ∧ Blk wx (w.heap.size + 1) 26 (enC e) ∧ Blk wx g3 29 (stC x) ∧ Ext w wx)
        case first =>
          have x0 := hx0 _ h1
          clear hox hvb hax hy0 hx0
          have y0 := x0
          cases B
          · cases hV : f.v
            · rw [hV] at x0 hJ
              have J2 := hJ rfl
              clear hJ hJB hJF hV y0
              go_wp2_with fail
              (try replace hb := Blk.drew hb); (try replace hm := Blk.drew hm); (try replace h1 := Blk.drew h1); (try replace h2 := Blk.drew h2); (try replace h3 := Blk.drew h3); replace HE := Lib.hid HE.out.drew
              refine wp_region_seq [(0, false), (1, false), (2, false), (3, false), (4, false), (5, false), (6, false), (7, false), (8, false), (9, false), (10, false), (11, false), (12, false), (13, false), (14, false), (15, true), (16, false), (17, false)] Ext (by kernel_rfl) (by kernel_rfl) Ext.refl (fun _ _ _ => Ext.trans) ?_; simp only [List.map, nth_z, nth_s]
              (try simp only [Act.put, List.setIfInBounds_toArray, List.set_cons_zero, List.set_cons_succ])
              (repeat (first | (refine seq_skip (by rfl) ?_; intro K hK; simp only [Act.put, List.setIfInBounds_toArray, List.set_cons_zero, List.set_cons_succ]; refine hK _ ?_; clear hK K) | (refine seq_skipc (by rfl) ?_; intro K hK; simp only [Act.put, List.setIfInBounds_toArray, List.set_cons_zero, List.set_cons_succ]; refine hK _ ?_; clear hK K) | (refine seq_read (by rfl) (by rfl) ?_; intro K hK; go_big_quiet_op; first | go_big_quiet_on | (refine ⟨_, fun _ _ => rfl, ?_⟩; go_big_quiet_on))))
              refine seq_value (.bool false) (by rfl) (fun x hx => by have hq := ext_cell hx (x0); simp [go_sem, execOp, Act.eval, hq]) ?_; intro K hK; simp only [Act.put, List.setIfInBounds_toArray, List.set_cons_zero, List.set_cons_succ]; refine hK _ ?_; clear hK K
              (repeat (first | (refine seq_skip (by rfl) ?_; intro K hK; simp only [Act.put, List.setIfInBounds_toArray, List.set_cons_zero, List.set_cons_succ]; refine hK _ ?_; clear hK K) | (refine seq_skipc (by rfl) ?_; intro K hK; simp only [Act.put, List.setIfInBounds_toArray, List.set_cons_zero, List.set_cons_succ]; refine hK _ ?_; clear hK K) | (refine seq_read (by rfl) (by rfl) ?_; intro K hK; go_big_quiet_op; first | go_big_quiet_on | (refine ⟨_, fun _ _ => rfl, ?_⟩; go_big_quiet_on))))
              refine seq_done ?_
              go_wp2_with fail
              go_meet
              case rel => exact ⟨_, rfl, J2, h1, h2, h3, HE.out⟩
            · rw [hV] at x0
              cases hS : sameE e f
              · rw [hS] at hsm
                have J2 := hJF
                clear hJ hJB hJF hV hS
                go_wp2_with fail
                (try replace hb := Blk.drew hb); (try replace hm := Blk.drew hm); (try replace h1 := Blk.drew h1); (try replace h2 := Blk.drew h2); (try replace h3 := Blk.drew h3); replace HE := Lib.hid HE.out.drew
                refine wp_region_seq [(0, false), (1, false), (2, false), (3, false), (4, false), (5, false), (6, false), (7, false), (8, false), (9, false), (10, false), (11, false), (12, false), (13, false), (14, false), (15, true), (16, false), (17, false)] Ext (by kernel_rfl) (by kernel_rfl) Ext.refl (fun _ _ _ => Ext.trans) ?_; simp only [List.map, nth_z, nth_s]
                (try simp only [Act.put, List.setIfInBounds_toArray, List.set_cons_zero, List.set_cons_succ])
                (repeat (first | (refine seq_skip (by rfl) ?_; intro K hK; simp only [Act.put, List.setIfInBounds_toArray, List.set_cons_zero, List.set_cons_succ]; refine hK _ ?_; clear hK K) | (refine seq_skipc (by rfl) ?_; intro K hK; simp only [Act.put, List.setIfInBounds_toArray, List.set_cons_zero, List.set_cons_succ]; refine hK _ ?_; clear hK K) | (refine seq_read (by rfl) (by rfl) ?_; intro K hK; go_big_quiet_op; first | go_big_quiet_on | (refine ⟨_, fun _ _ => rfl, ?_⟩; go_big_quiet_on))))
                refine seq_value (.bool true) (by rfl) (fun x hx => by have hq := ext_cell hx (x0); simp [go_sem, execOp, Act.eval, hq]) ?_; intro K hK; simp only [Act.put, List.setIfInBounds_toArray, List.set_cons_zero, List.set_cons_succ]; refine hK _ ?_; clear hK K
                (repeat (first | (refine seq_skip (by rfl) ?_; intro K hK; simp only [Act.put, List.setIfInBounds_toArray, List.set_cons_zero, List.set_cons_succ]; refine hK _ ?_; clear hK K) | (refine seq_skipc (by rfl) ?_; intro K hK; simp only [Act.put, List.setIfInBounds_toArray, List.set_cons_zero, List.set_cons_succ]; refine hK _ ?_; clear hK K) | (refine seq_read (by rfl) (by rfl) ?_; intro K hK; go_big_quiet_op; first | go_big_quiet_on | (refine ⟨_, fun _ _ => rfl, ?_⟩; go_big_quiet_on))))
                refine seq_load rfl rfl (fun x hx => Blk.ext (h2) hx) rfl Tryd.underlying26 (by kernel_rfl) (by rfl) ?_; intro K hK; simp only [Act.put, List.setIfInBounds_toArray, List.set_cons_zero, List.set_cons_succ]; refine hK _ ?_; clear hK K
                (repeat (first | (refine seq_skip (by rfl) ?_; intro K hK; simp only [Act.put, List.setIfInBounds_toArray, List.set_cons_zero, List.set_cons_succ]; refine hK _ ?_; clear hK K) | (refine seq_skipc (by rfl) ?_; intro K hK; simp only [Act.put, List.setIfInBounds_toArray, List.set_cons_zero, List.set_cons_succ]; refine hK _ ?_; clear hK K) | (refine seq_read (by rfl) (by rfl) ?_; intro K hK; go_big_quiet_op; first | go_big_quiet_on | (refine ⟨_, fun _ _ => rfl, ?_⟩; go_big_quiet_on))))
                refine seq_load_part rfl rfl (fun x hx => Blk.ext (h1) hx) (hat) rfl Tryd.underlying26 (en_info _) (by rfl) ?_; intro K hK; simp only [Act.put, List.setIfInBounds_toArray, List.set_cons_zero, List.set_cons_succ]; refine hK _ ?_; clear hK K
                refine seq_call (hsm _) rfl Tryd.func18 (by kernel_rfl) (by kernel_rfl) (by rfl) (by rfl) ?_; intro K hK; rintro e w' ⟨rfl, hE⟩; refine ⟨_, rfl, hE, ?_⟩; simp only [Act.put, List.setIfInBounds_toArray, List.set_cons_zero, List.set_cons_succ]; refine hK _ _ ?_; clear hK K; (try replace hb := hb.ext hE); (try replace hm := hm.ext hE); (try replace h1 := h1.ext hE); (try replace h2 := h2.ext hE); (try replace h3 := h3.ext hE); (try replace HT := Lib.hid (HT.out.ext hE)); (try replace HE := Lib.hid (HE.out.trans hE))
                replace x0 := ext_cell hE x0
                replace y0 := ext_cell hE y0
                clear hE
                (repeat (first | (refine seq_skip (by rfl) ?_; intro K hK; simp only [Act.put, List.setIfInBounds_toArray, List.set_cons_zero, List.set_cons_succ]; refine hK _ ?_; clear hK K) | (refine seq_skipc (by rfl) ?_; intro K hK; simp only [Act.put, List.setIfInBounds_toArray, List.set_cons_zero, List.set_cons_succ]; refine hK _ ?_; clear hK K) | (refine seq_read (by rfl) (by rfl) ?_; intro K hK; go_big_quiet_op; first | go_big_quiet_on | (refine ⟨_, fun _ _ => rfl, ?_⟩; go_big_quiet_on))))
                refine seq_done ?_
                go_wp2_with fail
                go_meet
                case rel => exact ⟨_, rfl, J2, h1, h2, h3, HE.out⟩
              · have J2 := hJ (by rw [hS]; simp)
                rw [hS] at hsm
                clear hJ hJB hJF hV hS
                go_wp2_with fail
                (try replace hb := Blk.drew hb); (try replace hm := Blk.drew hm); (try replace h1 := Blk.drew h1); (try replace h2 := Blk.drew h2); (try replace h3 := Blk.drew h3); replace HE := Lib.hid HE.out.drew
                refine wp_region_seq [(0, false), (1, false), (2, false), (3, false), (4, false), (5, false), (6, false), (7, false), (8, false), (9, false), (10, false), (11, false), (12, false), (13, false), (14, false), (15, true), (16, false), (17, false)] Ext (by kernel_rfl) (by kernel_rfl) Ext.refl (fun _ _ _ => Ext.trans) ?_; simp only [List.map, nth_z, nth_s]
                (try simp only [Act.put, List.setIfInBounds_toArray, List.set_cons_zero, List.set_cons_succ])
                (repeat (first | (refine seq_skip (by rfl) ?_; intro K hK; simp only [Act.put, List.setIfInBounds_toArray, List.set_cons_zero, List.set_cons_succ]; refine hK _ ?_; clear hK K) | (refine seq_skipc (by rfl) ?_; intro K hK; simp only [Act.put, List.setIfInBounds_toArray, List.set_cons_zero, List.set_cons_succ]; refine hK _ ?_; clear hK K) | (refine seq_read (by rfl) (by rfl) ?_; intro K hK; go_big_quiet_op; first | go_big_quiet_on | (refine ⟨_, fun _ _ => rfl, ?_⟩; go_big_quiet_on))))
                refine seq_value (.bool true) (by rfl) (fun x hx => by have hq := ext_cell hx (x0); simp [go_sem, execOp, Act.eval, hq]) ?_; intro K hK; simp only [Act.put, List.setIfInBounds_toArray, List.set_cons_zero, List.set_cons_succ]; refine hK _ ?_; clear hK K
                (repeat (first | (refine seq_skip (by rfl) ?_; intro K hK; simp only [Act.put, List.setIfInBounds_toArray, List.set_cons_zero, List.set_cons_succ]; refine hK _ ?_; clear hK K) | (refine seq_skipc (by rfl) ?_; intro K hK; simp only [Act.put, List.setIfInBounds_toArray, List.set_cons_zero, List.set_cons_succ]; refine hK _ ?_; clear hK K) | (refine seq_read (by rfl) (by rfl) ?_; intro K hK; go_big_quiet_op; first | go_big_quiet_on | (refine ⟨_, fun _ _ => rfl, ?_⟩; go_big_quiet_on))))
                refine seq_load rfl rfl (fun x hx => Blk.ext (h2) hx) rfl Tryd.underlying26 (by kernel_rfl) (by rfl) ?_; intro K hK; simp only [Act.put, List.setIfInBounds_toArray, List.set_cons_zero, List.set_cons_succ]; refine hK _ ?_; clear hK K
                (repeat (first | (refine seq_skip (by rfl) ?_; intro K hK; simp only [Act.put, List.setIfInBounds_toArray, List.set_cons_zero, List.set_cons_succ]; refine hK _ ?_; clear hK K) | (refine seq_skipc (by rfl) ?_; intro K hK; simp only [Act.put, List.setIfInBounds_toArray, List.set_cons_zero, List.set_cons_succ]; refine hK _ ?_; clear hK K) | (refine seq_read (by rfl) (by rfl) ?_; intro K hK; go_big_quiet_op; first | go_big_quiet_on | (refine ⟨_, fun _ _ => rfl, ?_⟩; go_big_quiet_on))))
                refine seq_load_part rfl rfl (fun x hx => Blk.ext (h1) hx) (hat) rfl Tryd.underlying26 (en_info _) (by rfl) ?_; intro K hK; simp only [Act.put, List.setIfInBounds_toArray, List.set_cons_zero, List.set_cons_succ]; refine hK _ ?_; clear hK K
                refine seq_call (hsm _) rfl Tryd.func18 (by kernel_rfl) (by kernel_rfl) (by rfl) (by rfl) ?_; intro K hK; rintro e w' ⟨rfl, hE⟩; refine ⟨_, rfl, hE, ?_⟩; simp only [Act.put, List.setIfInBounds_toArray, List.set_cons_zero, List.set_cons_succ]; refine hK _ _ ?_; clear hK K; (try replace hb := hb.ext hE); (try replace hm := hm.ext hE); (try replace h1 := h1.ext hE); (try replace h2 := h2.ext hE); (try replace h3 := h3.ext hE); (try replace HT := Lib.hid (HT.out.ext hE)); (try replace HE := Lib.hid (HE.out.trans hE))
                replace x0 := ext_cell hE x0
                replace y0 := ext_cell hE y0
                clear hE
                (repeat (first | (refine seq_skip (by rfl) ?_; intro K hK; simp only [Act.put, List.setIfInBounds_toArray, List.set_cons_zero, List.set_cons_succ]; refine hK _ ?_; clear hK K) | (refine seq_skipc (by rfl) ?_; intro K hK; simp only [Act.put, List.setIfInBounds_toArray, List.set_cons_zero, List.set_cons_succ]; refine hK _ ?_; clear hK K) | (refine seq_read (by rfl) (by rfl) ?_; intro K hK; go_big_quiet_op; first | go_big_quiet_on | (refine ⟨_, fun _ _ => rfl, ?_⟩; go_big_quiet_on))))
                refine seq_done ?_
                go_wp2_with fail
                go_meet
                case rel => exact ⟨_, rfl, J2, h1, h2, h3, HE.out⟩
          · have J2 := hJB rfl
            clear hJ hJB hJF y0
            go_wp2_with fail
            (try replace hb := Blk.drew hb); (try replace hm := Blk.drew hm); (try replace h1 := Blk.drew h1); (try replace h2 := Blk.drew h2); (try replace h3 := Blk.drew h3); replace HE := Lib.hid HE.out.drew
            refine wp_region_seq [(0, false), (1, false), (2, false), (3, false), (4, false), (5, false), (6, false), (7, false), (8, false), (9, false), (10, false), (11, false), (12, false), (13, false), (14, false), (15, true), (16, false), (17, false)] Ext (by kernel_rfl) (by kernel_rfl) Ext.refl (fun _ _ _ => Ext.trans) ?_; simp only [List.map, nth_z, nth_s]
            (try simp only [Act.put, List.setIfInBounds_toArray, List.set_cons_zero, List.set_cons_succ])
            (repeat (first | (refine seq_skip (by rfl) ?_; intro K hK; simp only [Act.put, List.setIfInBounds_toArray, List.set_cons_zero, List.set_cons_succ]; refine hK _ ?_; clear hK K) | (refine seq_skipc (by rfl) ?_; intro K hK; simp only [Act.put, List.setIfInBounds_toArray, List.set_cons_zero, List.set_cons_succ]; refine hK _ ?_; clear hK K) | (refine seq_read (by rfl) (by rfl) ?_; intro K hK; go_big_quiet_op; first | go_big_quiet_on | (refine ⟨_, fun _ _ => rfl, ?_⟩; go_big_quiet_on))))
            refine seq_done ?_
            go_wp2_with fail
            go_meet
            case rel => exact ⟨_, rfl, J2, h1, h2, h3, HE.out⟩
        case rest =>
          clear h1 h2 h3 HE hJ hJB hJF
          obtain ⟨B2, rfl, J2, h1, h2, h3, hE⟩ := hcut
          have HE := Lib.hid hE
          clear hE
          have hnf : ∀ w, (binOp .neq 26 (.agg (enC f)) (.agg (enC f))).run Tryd.prog w = .ok (.bool false) w := (fun w => run_b (neq_en w _ _) (dec_nots _))
          go_wp2_with fail
          go_cut [137] from 67 to 137 (fun c wx => c = .bool false ∧ Blk wx w.heap.size 29 (stC s) ∧ Blk wx (w.heap.size + 1) 26 (enC e) ∧ Blk wx g3 29 (stC x) ∧ Ext w wx)
          case first =>
            clear J2
            have x0 := hx0 _ h1
            have y0 := hy0 _ h3
            clear hx0 hy0
            by_cases hki : k = i
            · have hkk : ((k : Int) != (i : Int)) = false := by simp [hki]
              clear hki hox hax hnf hvb
              go_wp2_with fail
              (try replace hb := Blk.drew hb); (try replace hm := Blk.drew hm); (try replace h1 := Blk.drew h1); (try replace h2 := Blk.drew h2); (try replace h3 := Blk.drew h3); replace HE := Lib.hid HE.out.drew
              refine wp_region_seq [(0, false), (1, false), (2, false), (3, false), (4, false), (5, false), (6, false), (7, false), (8, false), (10, false), (11, false), (12, false), (13, false), (14, false), (9, true), (15, false), (16, false), (17, false), (18, false), (19, false), (20, false), (21, false), (22, false), (23, false), (24, false), (25, false), (26, false), (27, false), (28, false), (29, false), (30, false), (31, false), (32, false), (33, false), (34, false), (35, true), (36, false), (37, false), (38, false), (39, false), (40, false), (41, false), (42, false), (43, false), (44, false), (45, false), (46, false), (47, false), (48, false), (49, false)] Ext (by kernel_rfl) (by kernel_rfl) Ext.refl (fun _ _ _ => Ext.trans) ?_; simp only [List.map, nth_z, nth_s]
              (try simp only [Act.put, List.setIfInBounds_toArray, List.set_cons_zero, List.set_cons_succ])
              (repeat (first | (refine seq_skip (by rfl) ?_; intro K hK; simp only [Act.put, List.setIfInBounds_toArray, List.set_cons_zero, List.set_cons_succ]; refine hK _ ?_; clear hK K) | (refine seq_skipc (by rfl) ?_; intro K hK; simp only [Act.put, List.setIfInBounds_toArray, List.set_cons_zero, List.set_cons_succ]; refine hK _ ?_; clear hK K) | (refine seq_read (by rfl) (by rfl) ?_; intro K hK; go_big_quiet_op; first | go_big_quiet_on | (refine ⟨_, fun _ _ => rfl, ?_⟩; go_big_quiet_on))))
              refine seq_done ?_
              go_wp2_with fail
              go_meet
              case rel => exact ⟨rfl, h1, h2, h3, HE.out⟩
            · have hkk : ((k : Int) != (i : Int)) = true := by simp; omega
              have hg := hox hki
              clear hox hki
              cases hS : sameE e f
              · rw [hS] at hsm hg
                rw [if_neg (by decide)] at hg
                rw [hg] at hax y0
                clear hg hvb
                cases hV : f.v
                · rw [hV] at x0 y0
                  clear hV hS
                  go_wp2_with fail
                  (try replace hb := Blk.drew hb); (try replace hm := Blk.drew hm); (try replace h1 := Blk.drew h1); (try replace h2 := Blk.drew h2); (try replace h3 := Blk.drew h3); replace HE := Lib.hid HE.out.drew
                  refine wp_region_seq [(0, false), (1, false), (2, false), (3, false), (4, false), (5, false), (6, false), (7, false), (8, false), (10, false), (11, false), (12, false), (13, false), (14, false), (9, true), (15, false), (16, false), (17, false), (18, false), (19, false), (20, false), (21, false), (22, false), (23, false), (24, false), (25, false), (26, false), (27, false), (28, false), (29, false), (30, false), (31, false), (32, false), (33, false), (34, false), (35, true), (36, false), (37, false), (38, false), (39, false), (40, false), (41, false), (42, false), (43, false), (44, false), (45, false), (46, false), (47, false), (48, false), (49, false)] Ext (by kernel_rfl) (by kernel_rfl) Ext.refl (fun _ _ _ => Ext.trans) ?_; simp only [List.map, nth_z, nth_s]
                  (try simp only [Act.put, List.setIfInBounds_toArray, List.set_cons_zero, List.set_cons_succ])
                  (repeat (first | (refine seq_skip (by rfl) ?_; intro K hK; simp only [Act.put, List.setIfInBounds_toArray, List.set_cons_zero, List.set_cons_succ]; refine hK _ ?_; clear hK K) | (refine seq_skipc (by rfl) ?_; intro K hK; simp only [Act.put, List.setIfInBounds_toArray, List.set_cons_zero, List.set_cons_succ]; refine hK _ ?_; clear hK K) | (refine seq_read (by rfl) (by rfl) ?_; intro K hK; go_big_quiet_op; first | go_big_quiet_on | (refine ⟨_, fun _ _ => rfl, ?_⟩; go_big_quiet_on))))
                  refine seq_load rfl rfl (fun x hx => Blk.ext (h2) hx) rfl Tryd.underlying26 (by kernel_rfl) (by rfl) ?_; intro K hK; simp only [Act.put, List.setIfInBounds_toArray, List.set_cons_zero, List.set_cons_succ]; refine hK _ ?_; clear hK K
                  (repeat (first | (refine seq_skip (by rfl) ?_; intro K hK; simp only [Act.put, List.setIfInBounds_toArray, List.set_cons_zero, List.set_cons_succ]; refine hK _ ?_; clear hK K) | (refine seq_skipc (by rfl) ?_; intro K hK; simp only [Act.put, List.setIfInBounds_toArray, List.set_cons_zero, List.set_cons_succ]; refine hK _ ?_; clear hK K) | (refine seq_read (by rfl) (by rfl) ?_; intro K hK; go_big_quiet_op; first | go_big_quiet_on | (refine ⟨_, fun _ _ => rfl, ?_⟩; go_big_quiet_on))))
                  refine seq_load_part rfl rfl (fun x hx => Blk.ext (h1) hx) (hat) rfl Tryd.underlying26 (en_info _) (by rfl) ?_; intro K hK; simp only [Act.put, List.setIfInBounds_toArray, List.set_cons_zero, List.set_cons_succ]; refine hK _ ?_; clear hK K
                  (repeat (first | (refine seq_skip (by rfl) ?_; intro K hK; simp only [Act.put, List.setIfInBounds_toArray, List.set_cons_zero, List.set_cons_succ]; refine hK _ ?_; clear hK K) | (refine seq_skipc (by rfl) ?_; intro K hK; simp only [Act.put, List.setIfInBounds_toArray, List.set_cons_zero, List.set_cons_succ]; refine hK _ ?_; clear hK K) | (refine seq_read (by rfl) (by rfl) ?_; intro K hK; go_big_quiet_op; first | go_big_quiet_on | (refine ⟨_, fun _ _ => rfl, ?_⟩; go_big_quiet_on))))
                  refine seq_value (.bool false) (by rfl) (fun x hx => by have hq := ext_cell hx (x0); simp [go_sem, execOp, Act.eval, hq]) ?_; intro K hK; simp only [Act.put, List.setIfInBounds_toArray, List.set_cons_zero, List.set_cons_succ]; refine hK _ ?_; clear hK K
                  refine seq_call (hsm _) rfl Tryd.func18 (by kernel_rfl) (by kernel_rfl) (by rfl) (by rfl) ?_; intro K hK; rintro e w' ⟨rfl, hE⟩; refine ⟨_, rfl, hE, ?_⟩; simp only [Act.put, List.setIfInBounds_toArray, List.set_cons_zero, List.set_cons_succ]; refine hK _ _ ?_; clear hK K; (try replace hb := hb.ext hE); (try replace hm := hm.ext hE); (try replace h1 := h1.ext hE); (try replace h2 := h2.ext hE); (try replace h3 := h3.ext hE); (try replace HT := Lib.hid (HT.out.ext hE)); (try replace HE := Lib.hid (HE.out.trans hE))
                  replace x0 := ext_cell hE x0
                  replace y0 := ext_cell hE y0
                  clear hE
                  (repeat (first | (refine seq_skip (by rfl) ?_; intro K hK; simp only [Act.put, List.setIfInBounds_toArray, List.set_cons_zero, List.set_cons_succ]; refine hK _ ?_; clear hK K) | (refine seq_skipc (by rfl) ?_; intro K hK; simp only [Act.put, List.setIfInBounds_toArray, List.set_cons_zero, List.set_cons_succ]; refine hK _ ?_; clear hK K) | (refine seq_read (by rfl) (by rfl) ?_; intro K hK; go_big_quiet_op; first | go_big_quiet_on | (refine ⟨_, fun _ _ => rfl, ?_⟩; go_big_quiet_on))))
                  refine seq_load rfl rfl (fun x hx => Blk.ext (h2) hx) rfl Tryd.underlying26 (by kernel_rfl) (by rfl) ?_; intro K hK; simp only [Act.put, List.setIfInBounds_toArray, List.set_cons_zero, List.set_cons_succ]; refine hK _ ?_; clear hK K
                  (repeat (first | (refine seq_skip (by rfl) ?_; intro K hK; simp only [Act.put, List.setIfInBounds_toArray, List.set_cons_zero, List.set_cons_succ]; refine hK _ ?_; clear hK K) | (refine seq_skipc (by rfl) ?_; intro K hK; simp only [Act.put, List.setIfInBounds_toArray, List.set_cons_zero, List.set_cons_succ]; refine hK _ ?_; clear hK K) | (refine seq_read (by rfl) (by rfl) ?_; intro K hK; go_big_quiet_op; first | go_big_quiet_on | (refine ⟨_, fun _ _ => rfl, ?_⟩; go_big_quiet_on))))
                  refine seq_load_part rfl rfl (fun x hx => Blk.ext (h1) hx) (hat) rfl Tryd.underlying26 (en_info _) (by rfl) ?_; intro K hK; simp only [Act.put, List.setIfInBounds_toArray, List.set_cons_zero, List.set_cons_succ]; refine hK _ ?_; clear hK K
                  refine seq_call (hsm _) rfl Tryd.func18 (by kernel_rfl) (by kernel_rfl) (by rfl) (by rfl) ?_; intro K hK; rintro e w' ⟨rfl, hE⟩; refine ⟨_, rfl, hE, ?_⟩; simp only [Act.put, List.setIfInBounds_toArray, List.set_cons_zero, List.set_cons_succ]; refine hK _ _ ?_; clear hK K; (try replace hb := hb.ext hE); (try replace hm := hm.ext hE); (try replace h1 := h1.ext hE); (try replace h2 := h2.ext hE); (try replace h3 := h3.ext hE); (try replace HT := Lib.hid (HT.out.ext hE)); (try replace HE := Lib.hid (HE.out.trans hE))
                  clear hE x0 y0
                  (repeat (first | (refine seq_skip (by rfl) ?_; intro K hK; simp only [Act.put, List.setIfInBounds_toArray, List.set_cons_zero, List.set_cons_succ]; refine hK _ ?_; clear hK K) | (refine seq_skipc (by rfl) ?_; intro K hK; simp only [Act.put, List.setIfInBounds_toArray, List.set_cons_zero, List.set_cons_succ]; refine hK _ ?_; clear hK K) | (refine seq_read (by rfl) (by rfl) ?_; intro K hK; go_big_quiet_op; first | go_big_quiet_on | (refine ⟨_, fun _ _ => rfl, ?_⟩; go_big_quiet_on))))
                  refine seq_load_part rfl rfl (fun x hx => Blk.ext (h3) hx) (hax) rfl Tryd.underlying26 (en_info _) (by rfl) ?_; intro K hK; simp only [Act.put, List.setIfInBounds_toArray, List.set_cons_zero, List.set_cons_succ]; refine hK _ ?_; clear hK K
                  (repeat (first | (refine seq_skip (by rfl) ?_; intro K hK; simp only [Act.put, List.setIfInBounds_toArray, List.set_cons_zero, List.set_cons_succ]; refine hK _ ?_; clear hK K) | (refine seq_skipc (by rfl) ?_; intro K hK; simp only [Act.put, List.setIfInBounds_toArray, List.set_cons_zero, List.set_cons_succ]; refine hK _ ?_; clear hK K) | (refine seq_read (by rfl) (by rfl) ?_; intro K hK; go_big_quiet_op; first | go_big_quiet_on | (refine ⟨_, fun _ _ => rfl, ?_⟩; go_big_quiet_on))))
                  refine seq_load_part rfl rfl (fun x hx => Blk.ext (h1) hx) (hat) rfl Tryd.underlying26 (en_info _) (by rfl) ?_; intro K hK; simp only [Act.put, List.setIfInBounds_toArray, List.set_cons_zero, List.set_cons_succ]; refine hK _ ?_; clear hK K
                  refine seq_cmp rfl rfl rfl (en_guard) (hnf) (by rfl) ?_; intro K hK; simp only [Act.put, List.setIfInBounds_toArray, List.set_cons_zero, List.set_cons_succ]; refine hK _ ?_; clear hK K
                  (repeat (first | (refine seq_skip (by rfl) ?_; intro K hK; simp only [Act.put, List.setIfInBounds_toArray, List.set_cons_zero, List.set_cons_succ]; refine hK _ ?_; clear hK K) | (refine seq_skipc (by rfl) ?_; intro K hK; simp only [Act.put, List.setIfInBounds_toArray, List.set_cons_zero, List.set_cons_succ]; refine hK _ ?_; clear hK K) | (refine seq_read (by rfl) (by rfl) ?_; intro K hK; go_big_quiet_op; first | go_big_quiet_on | (refine ⟨_, fun _ _ => rfl, ?_⟩; go_big_quiet_on))))
                  refine seq_done ?_
                  go_wp2_with fail
                  go_meet
                  case rel => exact ⟨rfl, h1, h2, h3, HE.out⟩
                · rw [hV] at x0 y0
                  clear hV hS
                  go_wp2_with fail
                  (try replace hb := Blk.drew hb); (try replace hm := Blk.drew hm); (try replace h1 := Blk.drew h1); (try replace h2 := Blk.drew h2); (try replace h3 := Blk.drew h3); replace HE := Lib.hid HE.out.drew
                  refine wp_region_seq [(0, false), (1, false), (2, false), (3, false), (4, false), (5, false), (6, false), (7, false), (8, false), (10, false), (11, false), (12, false), (13, false), (14, false), (9, true), (15, false), (16, false), (17, false), (18, false), (19, false), (20, false), (21, false), (22, false), (23, false), (24, false), (25, false), (26, false), (27, false), (28, false), (29, false), (30, false), (31, false), (32, false), (33, false), (34, false), (35, true), (36, false), (37, false), (38, false), (39, false), (40, false), (41, false), (42, false), (43, false), (44, false), (45, false), (46, false), (47, false), (48, false), (49, false)] Ext (by kernel_rfl) (by kernel_rfl) Ext.refl (fun _ _ _ => Ext.trans) ?_; simp only [List.map, nth_z, nth_s]
                  (try simp only [Act.put, List.setIfInBounds_toArray, List.set_cons_zero, List.set_cons_succ])
                  (repeat (first | (refine seq_skip (by rfl) ?_; intro K hK; simp only [Act.put, List.setIfInBounds_toArray, List.set_cons_zero, List.set_cons_succ]; refine hK _ ?_; clear hK K) | (refine seq_skipc (by rfl) ?_; intro K hK; simp only [Act.put, List.setIfInBounds_toArray, List.set_cons_zero, List.set_cons_succ]; refine hK _ ?_; clear hK K) | (refine seq_read (by rfl) (by rfl) ?_; intro K hK; go_big_quiet_op; first | go_big_quiet_on | (refine ⟨_, fun _ _ => rfl, ?_⟩; go_big_quiet_on))))
                  refine seq_load rfl rfl (fun x hx => Blk.ext (h2) hx) rfl Tryd.underlying26 (by kernel_rfl) (by rfl) ?_; intro K hK; simp only [Act.put, List.setIfInBounds_toArray, List.set_cons_zero, List.set_cons_succ]; refine hK _ ?_; clear hK K
                  (repeat (first | (refine seq_skip (by rfl) ?_; intro K hK; simp only [Act.put, List.setIfInBounds_toArray, List.set_cons_zero, List.set_cons_succ]; refine hK _ ?_; clear hK K) | (refine seq_skipc (by rfl) ?_; intro K hK; simp only [Act.put, List.setIfInBounds_toArray, List.set_cons_zero, List.set_cons_succ]; refine hK _ ?_; clear hK K) | (refine seq_read (by rfl) (by rfl) ?_; intro K hK; go_big_quiet_op; first | go_big_quiet_on | (refine ⟨_, fun _ _ => rfl, ?_⟩; go_big_quiet_on))))
                  refine seq_load_part rfl rfl (fun x hx => Blk.ext (h1) hx) (hat) rfl Tryd.underlying26 (en_info _) (by rfl) ?_; intro K hK; simp only [Act.put, List.setIfInBounds_toArray, List.set_cons_zero, List.set_cons_succ]; refine hK _ ?_; clear hK K
                  (repeat (first | (refine seq_skip (by rfl) ?_; intro K hK; simp only [Act.put, List.setIfInBounds_toArray, List.set_cons_zero, List.set_cons_succ]; refine hK _ ?_; clear hK K) | (refine seq_skipc (by rfl) ?_; intro K hK; simp only [Act.put, List.setIfInBounds_toArray, List.set_cons_zero, List.set_cons_succ]; refine hK _ ?_; clear hK K) | (refine seq_read (by rfl) (by rfl) ?_; intro K hK; go_big_quiet_op; first | go_big_quiet_on | (refine ⟨_, fun _ _ => rfl, ?_⟩; go_big_quiet_on))))
                  refine seq_value (.bool true) (by rfl) (fun x hx => by have hq := ext_cell hx (x0); simp [go_sem, execOp, Act.eval, hq]) ?_; intro K hK; simp only [Act.put, List.setIfInBounds_toArray, List.set_cons_zero, List.set_cons_succ]; refine hK _ ?_; clear hK K
                  refine seq_call (hsm _) rfl Tryd.func18 (by kernel_rfl) (by kernel_rfl) (by rfl) (by rfl) ?_; intro K hK; rintro e w' ⟨rfl, hE⟩; refine ⟨_, rfl, hE, ?_⟩; simp only [Act.put, List.setIfInBounds_toArray, List.set_cons_zero, List.set_cons_succ]; refine hK _ _ ?_; clear hK K; (try replace hb := hb.ext hE); (try replace hm := hm.ext hE); (try replace h1 := h1.ext hE); (try replace h2 := h2.ext hE); (try replace h3 := h3.ext hE); (try replace HT := Lib.hid (HT.out.ext hE)); (try replace HE := Lib.hid (HE.out.trans hE))
                  replace x0 := ext_cell hE x0
                  replace y0 := ext_cell hE y0
                  clear hE
                  (repeat (first | (refine seq_skip (by rfl) ?_; intro K hK; simp only [Act.put, List.setIfInBounds_toArray, List.set_cons_zero, List.set_cons_succ]; refine hK _ ?_; clear hK K) | (refine seq_skipc (by rfl) ?_; intro K hK; simp only [Act.put, List.setIfInBounds_toArray, List.set_cons_zero, List.set_cons_succ]; refine hK _ ?_; clear hK K) | (refine seq_read (by rfl) (by rfl) ?_; intro K hK; go_big_quiet_op; first | go_big_quiet_on | (refine ⟨_, fun _ _ => rfl, ?_⟩; go_big_quiet_on))))
                  refine seq_value (.bool true) (by rfl) (fun x hx => by have hq := ext_cell hx (y0); simp [go_sem, execOp, Act.eval, hq]) ?_; intro K hK; simp only [Act.put, List.setIfInBounds_toArray, List.set_cons_zero, List.set_cons_succ]; refine hK _ ?_; clear hK K
                  (repeat (first | (refine seq_skip (by rfl) ?_; intro K hK; simp only [Act.put, List.setIfInBounds_toArray, List.set_cons_zero, List.set_cons_succ]; refine hK _ ?_; clear hK K) | (refine seq_skipc (by rfl) ?_; intro K hK; simp only [Act.put, List.setIfInBounds_toArray, List.set_cons_zero, List.set_cons_succ]; refine hK _ ?_; clear hK K) | (refine seq_read (by rfl) (by rfl) ?_; intro K hK; go_big_quiet_op; first | go_big_quiet_on | (refine ⟨_, fun _ _ => rfl, ?_⟩; go_big_quiet_on))))
                  refine seq_load rfl rfl (fun x hx => Blk.ext (h2) hx) rfl Tryd.underlying26 (by kernel_rfl) (by rfl) ?_; intro K hK; simp only [Act.put, List.setIfInBounds_toArray, List.set_cons_zero, List.set_cons_succ]; refine hK _ ?_; clear hK K
                  (repeat (first | (refine seq_skip (by rfl) ?_; intro K hK; simp only [Act.put, List.setIfInBounds_toArray, List.set_cons_zero, List.set_cons_succ]; refine hK _ ?_; clear hK K) | (refine seq_skipc (by rfl) ?_; intro K hK; simp only [Act.put, List.setIfInBounds_toArray, List.set_cons_zero, List.set_cons_succ]; refine hK _ ?_; clear hK K) | (refine seq_read (by rfl) (by rfl) ?_; intro K hK; go_big_quiet_op; first | go_big_quiet_on | (refine ⟨_, fun _ _ => rfl, ?_⟩; go_big_quiet_on))))
                  refine seq_load_part rfl rfl (fun x hx => Blk.ext (h1) hx) (hat) rfl Tryd.underlying26 (en_info _) (by rfl) ?_; intro K hK; simp only [Act.put, List.setIfInBounds_toArray, List.set_cons_zero, List.set_cons_succ]; refine hK _ ?_; clear hK K
                  refine seq_call (hsm _) rfl Tryd.func18 (by kernel_rfl) (by kernel_rfl) (by rfl) (by rfl) ?_; intro K hK; rintro e w' ⟨rfl, hE⟩; refine ⟨_, rfl, hE, ?_⟩; simp only [Act.put, List.setIfInBounds_toArray, List.set_cons_zero, List.set_cons_succ]; refine hK _ _ ?_; clear hK K; (try replace hb := hb.ext hE); (try replace hm := hm.ext hE); (try replace h1 := h1.ext hE); (try replace h2 := h2.ext hE); (try replace h3 := h3.ext hE); (try replace HT := Lib.hid (HT.out.ext hE)); (try replace HE := Lib.hid (HE.out.trans hE))
                  clear hE x0 y0
                  (repeat (first | (refine seq_skip (by rfl) ?_; intro K hK; simp only [Act.put, List.setIfInBounds_toArray, List.set_cons_zero, List.set_cons_succ]; refine hK _ ?_; clear hK K) | (refine seq_skipc (by rfl) ?_; intro K hK; simp only [Act.put, List.setIfInBounds_toArray, List.set_cons_zero, List.set_cons_succ]; refine hK _ ?_; clear hK K) | (refine seq_read (by rfl) (by rfl) ?_; intro K hK; go_big_quiet_op; first | go_big_quiet_on | (refine ⟨_, fun _ _ => rfl, ?_⟩; go_big_quiet_on))))
                  refine seq_load_part rfl rfl (fun x hx => Blk.ext (h3) hx) (hax) rfl Tryd.underlying26 (en_info _) (by rfl) ?_; intro K hK; simp only [Act.put, List.setIfInBounds_toArray, List.set_cons_zero, List.set_cons_succ]; refine hK _ ?_; clear hK K
                  (repeat (first | (refine seq_skip (by rfl) ?_; intro K hK; simp only [Act.put, List.setIfInBounds_toArray, List.set_cons_zero, List.set_cons_succ]; refine hK _ ?_; clear hK K) | (refine seq_skipc (by rfl) ?_; intro K hK; simp only [Act.put, List.setIfInBounds_toArray, List.set_cons_zero, List.set_cons_succ]; refine hK _ ?_; clear hK K) | (refine seq_read (by rfl) (by rfl) ?_; intro K hK; go_big_quiet_op; first | go_big_quiet_on | (refine ⟨_, fun _ _ => rfl, ?_⟩; go_big_quiet_on))))
                  refine seq_load_part rfl rfl (fun x hx => Blk.ext (h1) hx) (hat) rfl Tryd.underlying26 (en_info _) (by rfl) ?_; intro K hK; simp only [Act.put, List.setIfInBounds_toArray, List.set_cons_zero, List.set_cons_succ]; refine hK _ ?_; clear hK K
                  refine seq_cmp rfl rfl rfl (en_guard) (hnf) (by rfl) ?_; intro K hK; simp only [Act.put, List.setIfInBounds_toArray, List.set_cons_zero, List.set_cons_succ]; refine hK _ ?_; clear hK K
                  (repeat (first | (refine seq_skip (by rfl) ?_; intro K hK; simp only [Act.put, List.setIfInBounds_toArray, List.set_cons_zero, List.set_cons_succ]; refine hK _ ?_; clear hK K) | (refine seq_skipc (by rfl) ?_; intro K hK; simp only [Act.put, List.setIfInBounds_toArray, List.set_cons_zero, List.set_cons_succ]; refine hK _ ?_; clear hK K) | (refine seq_read (by rfl) (by rfl) ?_; intro K hK; go_big_quiet_op; first | go_big_quiet_on | (refine ⟨_, fun _ _ => rfl, ?_⟩; go_big_quiet_on))))
                  refine seq_done ?_
                  go_wp2_with fail
                  go_meet
                  case rel => exact ⟨rfl, h1, h2, h3, HE.out⟩
              · have hV := hvb hS
                rw [hS] at hg hsm
                rw [if_pos rfl] at hg
                rw [hg] at hax y0
                rw [e0_v] at y0
                rw [hV] at x0
                clear hg hvb hV hS
                go_wp2_with fail
                (try replace hb := Blk.drew hb); (try replace hm := Blk.drew hm); (try replace h1 := Blk.drew h1); (try replace h2 := Blk.drew h2); (try replace h3 := Blk.drew h3); replace HE := Lib.hid HE.out.drew
                refine wp_region_seq [(0, false), (1, false), (2, false), (3, false), (4, false), (5, false), (6, false), (7, false), (8, false), (10, false), (11, false), (12, false), (13, false), (14, false), (9, true), (15, false), (16, false), (17, false), (18, false), (19, false), (20, false), (21, false), (22, false), (23, false), (24, false), (25, false), (26, false), (27, false), (28, false), (29, false), (30, false), (31, false), (32, false), (33, false), (34, false), (35, true), (36, false), (37, false), (38, false), (39, false), (40, false), (41, false), (42, false), (43, false), (44, false), (45, false), (46, false), (47, false), (48, false), (49, false)] Ext (by kernel_rfl) (by kernel_rfl) Ext.refl (fun _ _ _ => Ext.trans) ?_; simp only [List.map, nth_z, nth_s]
                (try simp only [Act.put, List.setIfInBounds_toArray, List.set_cons_zero, List.set_cons_succ])
                (repeat (first | (refine seq_skip (by rfl) ?_; intro K hK; simp only [Act.put, List.setIfInBounds_toArray, List.set_cons_zero, List.set_cons_succ]; refine hK _ ?_; clear hK K) | (refine seq_skipc (by rfl) ?_; intro K hK; simp only [Act.put, List.setIfInBounds_toArray, List.set_cons_zero, List.set_cons_succ]; refine hK _ ?_; clear hK K) | (refine seq_read (by rfl) (by rfl) ?_; intro K hK; go_big_quiet_op; first | go_big_quiet_on | (refine ⟨_, fun _ _ => rfl, ?_⟩; go_big_quiet_on))))
                refine seq_load rfl rfl (fun x hx => Blk.ext (h2) hx) rfl Tryd.underlying26 (by kernel_rfl) (by rfl) ?_; intro K hK; simp only [Act.put, List.setIfInBounds_toArray, List.set_cons_zero, List.set_cons_succ]; refine hK _ ?_; clear hK K
                (repeat (first | (refine seq_skip (by rfl) ?_; intro K hK; simp only [Act.put, List.setIfInBounds_toArray, List.set_cons_zero, List.set_cons_succ]; refine hK _ ?_; clear hK K) | (refine seq_skipc (by rfl) ?_; intro K hK; simp only [Act.put, List.setIfInBounds_toArray, List.set_cons_zero, List.set_cons_succ]; refine hK _ ?_; clear hK K) | (refine seq_read (by rfl) (by rfl) ?_; intro K hK; go_big_quiet_op; first | go_big_quiet_on | (refine ⟨_, fun _ _ => rfl, ?_⟩; go_big_quiet_on))))
                refine seq_load_part rfl rfl (fun x hx => Blk.ext (h1) hx) (hat) rfl Tryd.underlying26 (en_info _) (by rfl) ?_; intro K hK; simp only [Act.put, List.setIfInBounds_toArray, List.set_cons_zero, List.set_cons_succ]; refine hK _ ?_; clear hK K
                (repeat (first | (refine seq_skip (by rfl) ?_; intro K hK; simp only [Act.put, List.setIfInBounds_toArray, List.set_cons_zero, List.set_cons_succ]; refine hK _ ?_; clear hK K) | (refine seq_skipc (by rfl) ?_; intro K hK; simp only [Act.put, List.setIfInBounds_toArray, List.set_cons_zero, List.set_cons_succ]; refine hK _ ?_; clear hK K) | (refine seq_read (by rfl) (by rfl) ?_; intro K hK; go_big_quiet_op; first | go_big_quiet_on | (refine ⟨_, fun _ _ => rfl, ?_⟩; go_big_quiet_on))))
                refine seq_value (.bool true) (by rfl) (fun x hx => by have hq := ext_cell hx (x0); simp [go_sem, execOp, Act.eval, hq]) ?_; intro K hK; simp only [Act.put, List.setIfInBounds_toArray, List.set_cons_zero, List.set_cons_succ]; refine hK _ ?_; clear hK K
                refine seq_call (hsm _) rfl Tryd.func18 (by kernel_rfl) (by kernel_rfl) (by rfl) (by rfl) ?_; intro K hK; rintro e w' ⟨rfl, hE⟩; refine ⟨_, rfl, hE, ?_⟩; simp only [Act.put, List.setIfInBounds_toArray, List.set_cons_zero, List.set_cons_succ]; refine hK _ _ ?_; clear hK K; (try replace hb := hb.ext hE); (try replace hm := hm.ext hE); (try replace h1 := h1.ext hE); (try replace h2 := h2.ext hE); (try replace h3 := h3.ext hE); (try replace HT := Lib.hid (HT.out.ext hE)); (try replace HE := Lib.hid (HE.out.trans hE))
                replace x0 := ext_cell hE x0
                replace y0 := ext_cell hE y0
                clear hE
                (repeat (first | (refine seq_skip (by rfl) ?_; intro K hK; simp only [Act.put, List.setIfInBounds_toArray, List.set_cons_zero, List.set_cons_succ]; refine hK _ ?_; clear hK K) | (refine seq_skipc (by rfl) ?_; intro K hK; simp only [Act.put, List.setIfInBounds_toArray, List.set_cons_zero, List.set_cons_succ]; refine hK _ ?_; clear hK K) | (refine seq_read (by rfl) (by rfl) ?_; intro K hK; go_big_quiet_op; first | go_big_quiet_on | (refine ⟨_, fun _ _ => rfl, ?_⟩; go_big_quiet_on))))
                refine seq_value (.bool false) (by rfl) (fun x hx => by have hq := ext_cell hx (y0); simp [go_sem, execOp, Act.eval, hq]) ?_; intro K hK; simp only [Act.put, List.setIfInBounds_toArray, List.set_cons_zero, List.set_cons_succ]; refine hK _ ?_; clear hK K
                (repeat (first | (refine seq_skip (by rfl) ?_; intro K hK; simp only [Act.put, List.setIfInBounds_toArray, List.set_cons_zero, List.set_cons_succ]; refine hK _ ?_; clear hK K) | (refine seq_skipc (by rfl) ?_; intro K hK; simp only [Act.put, List.setIfInBounds_toArray, List.set_cons_zero, List.set_cons_succ]; refine hK _ ?_; clear hK K) | (refine seq_read (by rfl) (by rfl) ?_; intro K hK; go_big_quiet_op; first | go_big_quiet_on | (refine ⟨_, fun _ _ => rfl, ?_⟩; go_big_quiet_on))))
                refine seq_load rfl rfl (fun x hx => Blk.ext (h2) hx) rfl Tryd.underlying26 (by kernel_rfl) (by rfl) ?_; intro K hK; simp only [Act.put, List.setIfInBounds_toArray, List.set_cons_zero, List.set_cons_succ]; refine hK _ ?_; clear hK K
                (repeat (first | (refine seq_skip (by rfl) ?_; intro K hK; simp only [Act.put, List.setIfInBounds_toArray, List.set_cons_zero, List.set_cons_succ]; refine hK _ ?_; clear hK K) | (refine seq_skipc (by rfl) ?_; intro K hK; simp only [Act.put, List.setIfInBounds_toArray, List.set_cons_zero, List.set_cons_succ]; refine hK _ ?_; clear hK K) | (refine seq_read (by rfl) (by rfl) ?_; intro K hK; go_big_quiet_op; first | go_big_quiet_on | (refine ⟨_, fun _ _ => rfl, ?_⟩; go_big_quiet_on))))
                refine seq_load_part rfl rfl (fun x hx => Blk.ext (h1) hx) (hat) rfl Tryd.underlying26 (en_info _) (by rfl) ?_; intro K hK; simp only [Act.put, List.setIfInBounds_toArray, List.set_cons_zero, List.set_cons_succ]; refine hK _ ?_; clear hK K
                refine seq_call (hsm _) rfl Tryd.func18 (by kernel_rfl) (by kernel_rfl) (by rfl) (by rfl) ?_; intro K hK; rintro e w' ⟨rfl, hE⟩; refine ⟨_, rfl, hE, ?_⟩; simp only [Act.put, List.setIfInBounds_toArray, List.set_cons_zero, List.set_cons_succ]; refine hK _ _ ?_; clear hK K; (try replace hb := hb.ext hE); (try replace hm := hm.ext hE); (try replace h1 := h1.ext hE); (try replace h2 := h2.ext hE); (try replace h3 := h3.ext hE); (try replace HT := Lib.hid (HT.out.ext hE)); (try replace HE := Lib.hid (HE.out.trans hE))
                clear hE x0 y0
                (repeat (first | (refine seq_skip (by rfl) ?_; intro K hK; simp only [Act.put, List.setIfInBounds_toArray, List.set_cons_zero, List.set_cons_succ]; refine hK _ ?_; clear hK K) | (refine seq_skipc (by rfl) ?_; intro K hK; simp only [Act.put, List.setIfInBounds_toArray, List.set_cons_zero, List.set_cons_succ]; refine hK _ ?_; clear hK K) | (refine seq_read (by rfl) (by rfl) ?_; intro K hK; go_big_quiet_op; first | go_big_quiet_on | (refine ⟨_, fun _ _ => rfl, ?_⟩; go_big_quiet_on))))
                refine seq_done ?_
                go_wp2_with fail
                go_meet
                case rel => exact ⟨rfl, h1, h2, h3, HE.out⟩
          case rest =>
            clear h1 h2 h3 HE
            obtain ⟨rfl, h1, h2, h3, hE⟩ := hcut
            have HE := Lib.hid hE
            clear hE hx0 hy0 hsm hat hax hox hvb hnf
            go_wp2
            go_roundw
            case rel => exact ⟨_, k + 1, by omega, rfl, by go_num, J2, h1, h2, h3, HE.out⟩
            case measure => simp [intOf]; omega
      · obtain rfl : k = 4 := by omega
        have hat := stC_at s il
        have xi := h1.way il (i := 0) (by decide)
        rw [enC_v] at xi
        simp only [Nat.add_zero] at xi
        have hsm := fun w => same13_c e (s.ws.at i) w
        have hW : ¬ (0 ≤ v ∧ v ≤ 3) → B = true → (!(s.ws.at i).v || sameE e (s.ws.at i)) = true := fun h hb => by
          obtain ⟨u, hu, hh⟩ := jp_out J.out hb
          exact hemp h u hu hh
        have dfi : decide (fi ≤ i) = true := by simp; exact hfi
        clear J hemp hoth xo hne HV hk hlt hfi
        generalize s.ws.at i = f at hat xi hsm hW
        generalize viN x.t = vx at hvx hvi hvl
        have hq : (((vx : Int) / 2) != ((i : Int) / 2)) = true := by simp; omega
        clear hvi
        go_wp2_with fail
        go_cut [11] from 138 to 204 (fun c wx => ∃ Z : Bool, c = .bool Z ∧ Hid (Jq v B Z) ∧ Blk wx w.heap.size 29 (stC s) ∧ Blk wx (w.heap.size + 1) 26 (enC e) ∧ Blk wx g3 29 (stC x) ∧ Ext w wx)
        case first =>
          have HT := Lib.hid (hT.ext HE.out)
          cases hV : f.v
          · have HZ : Hid (Jq v B true) := Lib.hid (jq_of fun _ _ => rfl)
            rw [hV] at xi
            clear hV hW
            go_wp2_with fail
            (try replace hb := Blk.drew hb); (try replace hm := Blk.drew hm); (try replace h1 := Blk.drew h1); (try replace h2 := Blk.drew h2); (try replace h3 := Blk.drew h3); replace HE := Lib.hid HE.out.drew
            replace HT := Lib.hid (HT.out.ext (Ext.refl _).drew)
            refine wp_region_seq [(0, false), (1, false), (2, false), (3, false), (4, false), (5, false), (6, false), (7, false), (8, false), (9, false), (10, false), (11, false), (12, true), (13, false), (14, false)] Ext (by kernel_rfl) (by kernel_rfl) Ext.refl (fun _ _ _ => Ext.trans) ?_; simp only [List.map, nth_z, nth_s]
            (try simp only [Act.put, List.setIfInBounds_toArray, List.set_cons_zero, List.set_cons_succ])
            (repeat (first | (refine seq_skip (by rfl) ?_; intro K hK; simp only [Act.put, List.setIfInBounds_toArray, List.set_cons_zero, List.set_cons_succ]; refine hK _ ?_; clear hK K) | (refine seq_skipc (by rfl) ?_; intro K hK; simp only [Act.put, List.setIfInBounds_toArray, List.set_cons_zero, List.set_cons_succ]; refine hK _ ?_; clear hK K) | (refine seq_read (by rfl) (by rfl) ?_; intro K hK; go_big_quiet_op; first | go_big_quiet_on | (refine ⟨_, fun _ _ => rfl, ?_⟩; go_big_quiet_on))))
            refine seq_value (.bool false) (by rfl) (fun x hx => by have hq := ext_cell hx (xi); simp [go_sem, execOp, Act.eval, hq]) ?_; intro K hK; simp only [Act.put, List.setIfInBounds_toArray, List.set_cons_zero, List.set_cons_succ]; refine hK _ ?_; clear hK K
            (repeat (first | (refine seq_skip (by rfl) ?_; intro K hK; simp only [Act.put, List.setIfInBounds_toArray, List.set_cons_zero, List.set_cons_succ]; refine hK _ ?_; clear hK K) | (refine seq_skipc (by rfl) ?_; intro K hK; simp only [Act.put, List.setIfInBounds_toArray, List.set_cons_zero, List.set_cons_succ]; refine hK _ ?_; clear hK K) | (refine seq_read (by rfl) (by rfl) ?_; intro K hK; go_big_quiet_op; first | go_big_quiet_on | (refine ⟨_, fun _ _ => rfl, ?_⟩; go_big_quiet_on))))
            refine seq_done ?_
            go_wp2_with fail
            go_meet
            case rel => exact ⟨_, rfl, by assumption, h1, h2, h3, HE.out⟩
          · rw [hV] at xi hW
            clear hV
            generalize sameE e f = S at hsm hW
            have HZ : Hid (Jq v B S) := Lib.hid (jq_of fun h hb => by simpa using hW h hb)
            clear hW
            cases S
            · skip
              go_wp2_with fail
              (try replace hb := Blk.drew hb); (try replace hm := Blk.drew hm); (try replace h1 := Blk.drew h1); (try replace h2 := Blk.drew h2); (try replace h3 := Blk.drew h3); replace HE := Lib.hid HE.out.drew
              replace HT := Lib.hid (HT.out.ext (Ext.refl _).drew)
              refine wp_region_seq [(0, false), (1, false), (2, false), (3, false), (4, false), (5, false), (6, false), (7, false), (8, false), (9, false), (10, false), (11, false), (12, true), (13, false), (14, false)] Ext (by kernel_rfl) (by kernel_rfl) Ext.refl (fun _ _ _ => Ext.trans) ?_; simp only [List.map, nth_z, nth_s]
              (try simp only [Act.put, List.setIfInBounds_toArray, List.set_cons_zero, List.set_cons_succ])
              (repeat (first | (refine seq_skip (by rfl) ?_; intro K hK; simp only [Act.put, List.setIfInBounds_toArray, List.set_cons_zero, List.set_cons_succ]; refine hK _ ?_; clear hK K) | (refine seq_skipc (by rfl) ?_; intro K hK; simp only [Act.put, List.setIfInBounds_toArray, List.set_cons_zero, List.set_cons_succ]; refine hK _ ?_; clear hK K) | (refine seq_read (by rfl) (by rfl) ?_; intro K hK; go_big_quiet_op; first | go_big_quiet_on | (refine ⟨_, fun _ _ => rfl, ?_⟩; go_big_quiet_on))))
              refine seq_value (.bool true) (by rfl) (fun x hx => by have hq := ext_cell hx (xi); simp [go_sem, execOp, Act.eval, hq]) ?_; intro K hK; simp only [Act.put, List.setIfInBounds_toArray, List.set_cons_zero, List.set_cons_succ]; refine hK _ ?_; clear hK K
              (repeat (first | (refine seq_skip (by rfl) ?_; intro K hK; simp only [Act.put, List.setIfInBounds_toArray, List.set_cons_zero, List.set_cons_succ]; refine hK _ ?_; clear hK K) | (refine seq_skipc (by rfl) ?_; intro K hK; simp only [Act.put, List.setIfInBounds_toArray, List.set_cons_zero, List.set_cons_succ]; refine hK _ ?_; clear hK K) | (refine seq_read (by rfl) (by rfl) ?_; intro K hK; go_big_quiet_op; first | go_big_quiet_on | (refine ⟨_, fun _ _ => rfl, ?_⟩; go_big_quiet_on))))
              refine seq_load rfl rfl (fun x hx => Blk.ext (h2) hx) rfl Tryd.underlying26 (by kernel_rfl) (by rfl) ?_; intro K hK; simp only [Act.put, List.setIfInBounds_toArray, List.set_cons_zero, List.set_cons_succ]; refine hK _ ?_; clear hK K
              (repeat (first | (refine seq_skip (by rfl) ?_; intro K hK; simp only [Act.put, List.setIfInBounds_toArray, List.set_cons_zero, List.set_cons_succ]; refine hK _ ?_; clear hK K) | (refine seq_skipc (by rfl) ?_; intro K hK; simp only [Act.put, List.setIfInBounds_toArray, List.set_cons_zero, List.set_cons_succ]; refine hK _ ?_; clear hK K) | (refine seq_read (by rfl) (by rfl) ?_; intro K hK; go_big_quiet_op; first | go_big_quiet_on | (refine ⟨_, fun _ _ => rfl, ?_⟩; go_big_quiet_on))))
              refine seq_load_part rfl rfl (fun x hx => Blk.ext (h1) hx) (hat) rfl Tryd.underlying26 (en_info _) (by rfl) ?_; intro K hK; simp only [Act.put, List.setIfInBounds_toArray, List.set_cons_zero, List.set_cons_succ]; refine hK _ ?_; clear hK K
              refine seq_call (hsm _) rfl Tryd.func18 (by kernel_rfl) (by kernel_rfl) (by rfl) (by rfl) ?_; intro K hK; rintro e w' ⟨rfl, hE⟩; refine ⟨_, rfl, hE, ?_⟩; simp only [Act.put, List.setIfInBounds_toArray, List.set_cons_zero, List.set_cons_succ]; refine hK _ _ ?_; clear hK K; (try replace hb := hb.ext hE); (try replace hm := hm.ext hE); (try replace h1 := h1.ext hE); (try replace h2 := h2.ext hE); (try replace h3 := h3.ext hE); (try replace HT := Lib.hid (HT.out.ext hE)); (try replace HE := Lib.hid (HE.out.trans hE))
              clear hE
              (repeat (first | (refine seq_skip (by rfl) ?_; intro K hK; simp only [Act.put, List.setIfInBounds_toArray, List.set_cons_zero, List.set_cons_succ]; refine hK _ ?_; clear hK K) | (refine seq_skipc (by rfl) ?_; intro K hK; simp only [Act.put, List.setIfInBounds_toArray, List.set_cons_zero, List.set_cons_succ]; refine hK _ ?_; clear hK K) | (refine seq_read (by rfl) (by rfl) ?_; intro K hK; go_big_quiet_op; first | go_big_quiet_on | (refine ⟨_, fun _ _ => rfl, ?_⟩; go_big_quiet_on))))
              refine seq_done ?_
              go_wp2_with fail
              go_meet
              case rel => exact ⟨_, rfl, by assumption, h1, h2, h3, HE.out⟩
            · skip
              go_wp2_with fail
              (try replace hb := Blk.drew hb); (try replace hm := Blk.drew hm); (try replace h1 := Blk.drew h1); (try replace h2 := Blk.drew h2); (try replace h3 := Blk.drew h3); replace HE := Lib.hid HE.out.drew
              replace HT := Lib.hid (HT.out.ext (Ext.refl _).drew)
              refine wp_region_seq [(0, false), (1, false), (2, false), (3, false), (4, false), (5, false), (6, false), (7, false), (8, false), (9, false), (10, false), (11, false), (12, true), (13, false), (14, false)] Ext (by kernel_rfl) (by kernel_rfl) Ext.refl (fun _ _ _ => Ext.trans) ?_; simp only [List.map, nth_z, nth_s]
              (try simp only [Act.put, List.setIfInBounds_toArray, List.set_cons_zero, List.set_cons_succ])
              (repeat (first | (refine seq_skip (by rfl) ?_; intro K hK; simp only [Act.put, List.setIfInBounds_toArray, List.set_cons_zero, List.set_cons_succ]; refine hK _ ?_; clear hK K) | (refine seq_skipc (by rfl) ?_; intro K hK; simp only [Act.put, List.setIfInBounds_toArray, List.set_cons_zero, List.set_cons_succ]; refine hK _ ?_; clear hK K) | (refine seq_read (by rfl) (by rfl) ?_; intro K hK; go_big_quiet_op; first | go_big_quiet_on | (refine ⟨_, fun _ _ => rfl, ?_⟩; go_big_quiet_on))))
              refine seq_value (.bool true) (by rfl) (fun x hx => by have hq := ext_cell hx (xi); simp [go_sem, execOp, Act.eval, hq]) ?_; intro K hK; simp only [Act.put, List.setIfInBounds_toArray, List.set_cons_zero, List.set_cons_succ]; refine hK _ ?_; clear hK K
              (repeat (first | (refine seq_skip (by rfl) ?_; intro K hK; simp only [Act.put, List.setIfInBounds_toArray, List.set_cons_zero, List.set_cons_succ]; refine hK _ ?_; clear hK K) | (refine seq_skipc (by rfl) ?_; intro K hK; simp only [Act.put, List.setIfInBounds_toArray, List.set_cons_zero, List.set_cons_succ]; refine hK _ ?_; clear hK K) | (refine seq_read (by rfl) (by rfl) ?_; intro K hK; go_big_quiet_op; first | go_big_quiet_on | (refine ⟨_, fun _ _ => rfl, ?_⟩; go_big_quiet_on))))
              refine seq_load rfl rfl (fun x hx => Blk.ext (h2) hx) rfl Tryd.underlying26 (by kernel_rfl) (by rfl) ?_; intro K hK; simp only [Act.put, List.setIfInBounds_toArray, List.set_cons_zero, List.set_cons_succ]; refine hK _ ?_; clear hK K
              (repeat (first | (refine seq_skip (by rfl) ?_; intro K hK; simp only [Act.put, List.setIfInBounds_toArray, List.set_cons_zero, List.set_cons_succ]; refine hK _ ?_; clear hK K) | (refine seq_skipc (by rfl) ?_; intro K hK; simp only [Act.put, List.setIfInBounds_toArray, List.set_cons_zero, List.set_cons_succ]; refine hK _ ?_; clear hK K) | (refine seq_read (by rfl) (by rfl) ?_; intro K hK; go_big_quiet_op; first | go_big_quiet_on | (refine ⟨_, fun _ _ => rfl, ?_⟩; go_big_quiet_on))))
              refine seq_load_part rfl rfl (fun x hx => Blk.ext (h1) hx) (hat) rfl Tryd.underlying26 (en_info _) (by rfl) ?_; intro K hK; simp only [Act.put, List.setIfInBounds_toArray, List.set_cons_zero, List.set_cons_succ]; refine hK _ ?_; clear hK K
              refine seq_call (hsm _) rfl Tryd.func18 (by kernel_rfl) (by kernel_rfl) (by rfl) (by rfl) ?_; intro K hK; rintro e w' ⟨rfl, hE⟩; refine ⟨_, rfl, hE, ?_⟩; simp only [Act.put, List.setIfInBounds_toArray, List.set_cons_zero, List.set_cons_succ]; refine hK _ _ ?_; clear hK K; (try replace hb := hb.ext hE); (try replace hm := hm.ext hE); (try replace h1 := h1.ext hE); (try replace h2 := h2.ext hE); (try replace h3 := h3.ext hE); (try replace HT := Lib.hid (HT.out.ext hE)); (try replace HE := Lib.hid (HE.out.trans hE))
              clear hE
              (repeat (first | (refine seq_skip (by rfl) ?_; intro K hK; simp only [Act.put, List.setIfInBounds_toArray, List.set_cons_zero, List.set_cons_succ]; refine hK _ ?_; clear hK K) | (refine seq_skipc (by rfl) ?_; intro K hK; simp only [Act.put, List.setIfInBounds_toArray, List.set_cons_zero, List.set_cons_succ]; refine hK _ ?_; clear hK K) | (refine seq_read (by rfl) (by rfl) ?_; intro K hK; go_big_quiet_op; first | go_big_quiet_on | (refine ⟨_, fun _ _ => rfl, ?_⟩; go_big_quiet_on))))
              refine seq_done ?_
              go_wp2_with fail
              go_meet
              case rel => exact ⟨_, rfl, by assumption, h1, h2, h3, HE.out⟩
        case rest =>
          clear h1 h2 h3 HE xi hat hsm hW
          obtain ⟨Z, rfl, HZ, h1, h2, h3, hE⟩ := hcut
          have HE := Lib.hid hE
          clear hE
          go_upto_region 14 with fail
          go_cut [177] from 152 to 177 (fun c wx => c = .bool false ∧ wx = wc)
          case first =>
            by_cases hvr : 0 ≤ v ∧ v ≤ 3
            · obtain rfl : v = (i : Int) := (hvic hvr.1 hvr.2).symm
              have d1 : decide ((i : Int) ≤ 3) = true := by simp; omega
              clear hvic hvr HZ
              go_wp2_with fail
              go_meet
              case rel => exact ⟨rfl, rfl⟩
            · have hZ := jq_out HZ.out hvr
              clear hvic HZ
              cases hv0 : decide (0 ≤ v)
              · have d1 : decide (v < 0) = true := by simp at hv0 ⊢; omega
                clear hvr
                cases B
                · clear hZ
                  go_wp2_with fail
                  go_meet
                  case rel => exact ⟨rfl, rfl⟩
                · obtain rfl := hZ rfl
                  go_wp2_with fail
                  go_meet
                  case rel => exact ⟨rfl, rfl⟩
              · have d1 : decide (v ≤ 3) = false := by simp at hv0 ⊢; omega
                have d2 : decide (v < 0) = false := by simp at hv0 ⊢; omega
                have d4 : decide (3 < v) = true := by simp at hv0 ⊢; omega
                clear hvr
                cases B
                · clear hZ
                  go_wp2_with fail
                  go_meet
                  case rel => exact ⟨rfl, rfl⟩
                · obtain rfl := hZ rfl
                  go_wp2_with fail
                  go_meet
                  case rel => exact ⟨rfl, rfl⟩
          case rest =>
            obtain ⟨rfl, rfl⟩ := hcut
            clear hvic HZ
            have HT := Lib.hid (hT.ext HE.out)
            go_wp2_with fail
            (try replace hb := Blk.drew hb); (try replace hm := Blk.drew hm); (try replace h1 := Blk.drew h1); (try replace h2 := Blk.drew h2); (try replace h3 := Blk.drew h3); replace HE := Lib.hid HE.out.drew
            replace HT := Lib.hid (HT.out.ext (Ext.refl _).drew)
            refine wp_region_seq [(0, false), (1, false), (2, false), (3, false), (4, false), (6, false), (7, false), (5, true), (8, true), (9, false), (10, false), (11, false), (12, false), (13, false)] Ext (by kernel_rfl) (by kernel_rfl) Ext.refl (fun _ _ _ => Ext.trans) ?_; simp only [List.map, nth_z, nth_s]
            (try simp only [Act.put, List.setIfInBounds_toArray, List.set_cons_zero, List.set_cons_succ])
            refine seq_load rfl rfl (fun x hx => Blk.ext (h3) hx) rfl Tryd.underlying29 (by kernel_rfl) (by rfl) ?_; intro K hK; simp only [Act.put, List.setIfInBounds_toArray, List.set_cons_zero, List.set_cons_succ]; refine hK _ ?_; clear hK K
            (repeat (first | (refine seq_skip (by rfl) ?_; intro K hK; simp only [Act.put, List.setIfInBounds_toArray, List.set_cons_zero, List.set_cons_succ]; refine hK _ ?_; clear hK K) | (refine seq_skipc (by rfl) ?_; intro K hK; simp only [Act.put, List.setIfInBounds_toArray, List.set_cons_zero, List.set_cons_succ]; refine hK _ ?_; clear hK K) | (refine seq_read (by rfl) (by rfl) ?_; intro K hK; go_big_quiet_op; first | go_big_quiet_on | (refine ⟨_, fun _ _ => rfl, ?_⟩; go_big_quiet_on))))
            refine seq_value (.int .u64 (e.n : Int)) (by rfl) (fun x hx => by have hq := ext_cell hx (h2.en_n); simp [go_sem, execOp, Act.eval, hq]) ?_; intro K hK; simp only [Act.put, List.setIfInBounds_toArray, List.set_cons_zero, List.set_cons_succ]; refine hK _ ?_; clear hK K
            (repeat (first | (refine seq_skip (by rfl) ?_; intro K hK; simp only [Act.put, List.setIfInBounds_toArray, List.set_cons_zero, List.set_cons_succ]; refine hK _ ?_; clear hK K) | (refine seq_skipc (by rfl) ?_; intro K hK; simp only [Act.put, List.setIfInBounds_toArray, List.set_cons_zero, List.set_cons_succ]; refine hK _ ?_; clear hK K) | (refine seq_read (by rfl) (by rfl) ?_; intro K hK; go_big_quiet_op; first | go_big_quiet_on | (refine ⟨_, fun _ _ => rfl, ?_⟩; go_big_quiet_on))))
            refine seq_value (.int .u64 (e.vp : Int)) (by rfl) (fun x hx => by have hq := ext_cell hx (h2.en_vp); simp [go_sem, execOp, Act.eval, hq]) ?_; intro K hK; simp only [Act.put, List.setIfInBounds_toArray, List.set_cons_zero, List.set_cons_succ]; refine hK _ ?_; clear hK K
            (repeat (first | (refine seq_skip (by rfl) ?_; intro K hK; simp only [Act.put, List.setIfInBounds_toArray, List.set_cons_zero, List.set_cons_succ]; refine hK _ ?_; clear hK K) | (refine seq_skipc (by rfl) ?_; intro K hK; simp only [Act.put, List.setIfInBounds_toArray, List.set_cons_zero, List.set_cons_succ]; refine hK _ ?_; clear hK K) | (refine seq_read (by rfl) (by rfl) ?_; intro K hK; go_big_quiet_op; first | go_big_quiet_on | (refine ⟨_, fun _ _ => rfl, ?_⟩; go_big_quiet_on))))
            refine seq_value (.int .i64 e.l) (by rfl) (fun x hx => by have hq := ext_cell hx (h2.en_l); simp [go_sem, execOp, Act.eval, hq]) ?_; intro K hK; simp only [Act.put, List.setIfInBounds_toArray, List.set_cons_zero, List.set_cons_succ]; refine hK _ ?_; clear hK K
            refine seq_call (cof _) rfl Tryd.func23 (by kernel_rfl) (by kernel_rfl) (by rfl) (by rfl) ?_; intro K hK; rintro e w' ⟨rfl, hE⟩; refine ⟨_, rfl, hE, ?_⟩; simp only [Act.put, List.setIfInBounds_toArray, List.set_cons_zero, List.set_cons_succ]; refine hK _ _ ?_; clear hK K; (try replace hb := hb.ext hE); (try replace hm := hm.ext hE); (try replace h1 := h1.ext hE); (try replace h2 := h2.ext hE); (try replace h3 := h3.ext hE); (try replace HT := Lib.hid (HT.out.ext hE)); (try replace HE := Lib.hid (HE.out.trans hE))
            clear hE
            refine seq_call (cfi _ HT.out) rfl Tryd.func12 (by kernel_rfl) (by kernel_rfl) (by rfl) (by rfl) ?_; intro K hK; rintro e w' ⟨rfl, hE⟩; refine ⟨_, rfl, hE, ?_⟩; simp only [Act.put, List.setIfInBounds_toArray, List.set_cons_zero, List.set_cons_succ]; refine hK _ _ ?_; clear hK K; (try replace hb := hb.ext hE); (try replace hm := hm.ext hE); (try replace h1 := h1.ext hE); (try replace h2 := h2.ext hE); (try replace h3 := h3.ext hE); (try replace HT := Lib.hid (HT.out.ext hE)); (try replace HE := Lib.hid (HE.out.trans hE))
            clear hE
            (repeat (first | (refine seq_skip (by rfl) ?_; intro K hK; simp only [Act.put, List.setIfInBounds_toArray, List.set_cons_zero, List.set_cons_succ]; refine hK _ ?_; clear hK K) | (refine seq_skipc (by rfl) ?_; intro K hK; simp only [Act.put, List.setIfInBounds_toArray, List.set_cons_zero, List.set_cons_succ]; refine hK _ ?_; clear hK K) | (refine seq_read (by rfl) (by rfl) ?_; intro K hK; go_big_quiet_op; first | go_big_quiet_on | (refine ⟨_, fun _ _ => rfl, ?_⟩; go_big_quiet_on))))
            refine seq_done ?_
            have x44 := h3.st_t
            go_wp2_with fail
            refine (hvx _).mono ?_
            rintro e1 w2 ⟨rfl, rfl⟩
            go_wp2
            go_ret
            exact ⟨rfl, HE.out⟩
end Go.Proofs.YtbncaghcokmefaaDoor
