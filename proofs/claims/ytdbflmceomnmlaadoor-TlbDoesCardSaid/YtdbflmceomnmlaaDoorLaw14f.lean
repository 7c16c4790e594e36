/- TlbDoes, over the package's contracts (TlbC). -/
import Derived.Test.YtdbflmceomnmlaaDoorLaw14b
import Derived.Test.YtdbflmceomnmlaaDoorCtlba
namespace Go.Proofs.YtdbflmceomnmlaaDoor
open Go.ChangeShapes Go.WideShapes Go.ChangeAt Go.RowKit
set_option linter.unusedVariables false
set_option linter.unusedSimpArgs false

/-! what New and Drop answer, whatever they are asked -/
def newL (m : Int) : List St := if 0 ≤ m ∧ m ≤ 16 then List.replicate m.toNat s0 else []
def newG (m : Int) : Int := if 0 ≤ m ∧ m ≤ 16 then 0 else 1
def drpL (L : List St) (i y : Int) : List St := if 0 ≤ i ∧ i < L.length ∧ 0 ≤ y ∧ y ≤ 3 then dropT L i.toNat y.toNat else L
def drpG (L : List St) (i y : Int) : Int := if 0 ≤ i ∧ i < L.length ∧ 0 ≤ y ∧ y ≤ 3 then 0 else 1
theorem drpL_len (L : List St) (i y : Int) : (drpL L i y).length = L.length := by
  unfold drpL
  split
  · rw [← dropT_eq, List.length_set]
  · rfl
theorem new_any (C : TlbC) (m : Int) (w : World) (hT : Lays w) : Calls Tryd.prog 10 #[.int .i64 m] w fun r w' => ∃ A c, r = .returned (.tuple #[.agg #[.slice A (newL m).length c], .int .i64 (newG m)]) ∧ RowV KS w' A (newL m) c ∧ Ext w w' := by
  unfold newL newG
  by_cases h : 0 ≤ m ∧ m ≤ 16
  · rw [if_pos h, if_pos h, List.length_replicate]
    have hc := C.new m.toNat w (by omega) hT
    rw [show ((m.toNat : Nat) : Int) = m by omega] at hc
    exact hc
  · rw [if_neg h, if_neg h]
    exact (C.newNo m w h hT).mono fun r w' ⟨h1, h2⟩ => ⟨none, 0, h1, RowV.nil _, h2⟩
theorem drop_any (C : TlbC) (A : Option Addr) (L : List St) (c : Nat) (i y : Int) (hrt : rightT L = true) (w : World) (hr : RowV KS w A L c) (hT : Lays w) :
    Calls Tryd.prog 18 #[.agg #[.slice A L.length c], .int .i64 i, .int .i64 y] w fun r w' => ∃ A' c', r = .returned (.tuple #[.agg #[.slice A' L.length c'], .int .i64 (drpG L i y)]) ∧ RowV KS w' A' (drpL L i y) c' ∧ Ext w w' := by
  unfold drpL drpG
  by_cases h : 0 ≤ i ∧ i < L.length ∧ 0 ≤ y ∧ y ≤ 3
  · rw [if_pos h, if_pos h]
    have hc := C.drop A L c i.toNat y.toNat w hrt (by omega) (by omega) hr hT
    rw [show ((i.toNat : Nat) : Int) = i by omega, show ((y.toNat : Nat) : Int) = y by omega] at hc
    exact hc
  · rw [if_neg h, if_neg h]
    exact (C.dropNo A L.length c i y w h hT).mono fun r w' ⟨h1, h2⟩ => ⟨A, c, h1, hr.ext h2, h2⟩
theorem rdrop_any (A : Option Addr) (L : List St) (c : Nat) (i y : Int) (hrt : rightT L = true) (w : World) (hr : RowV KS w A L c) :
    Calls Tryd.prog 19 #[.agg #[.slice A L.length c], .int .i64 i, .int .i64 y] w fun r w' => ∃ A' c', r = .returned (.tuple #[.agg #[.slice A' L.length c'], .int .i64 (drpG L i y)]) ∧ RowV KS w' A' (drpL L i y) c' ∧ Ext w w' := by
  unfold drpL drpG
  have hl := rt_len hrt
  by_cases h : 0 ≤ i ∧ i < L.length ∧ 0 ≤ y ∧ y ≤ 3
  · rw [if_pos h, if_pos h]
    have hc := rdrop14_c A L c (by omega) i.toNat y.toNat (by omega) (by omega) w hr
    rw [show ((i.toNat : Nat) : Int) = i by omega, show ((y.toNat : Nat) : Int) = y by omega] at hc
    exact hc.mono fun r w' ⟨A', c', h1, h2, _, h4⟩ => ⟨A', c', by rw [h1, show (dropT L i.toNat y.toNat).length = L.length by rw [← dropT_eq, List.length_set]], h2, h4⟩
  · rw [if_neg h, if_neg h]
    exact (rdrop14_no A L.length c i y h w).mono fun r w' ⟨h1, h2⟩ => ⟨A, c, h1, hr.ext h2, h2⟩
theorem rput_any (A : Option Addr) (L : List St) (c : Nat) (e : En) (v : Int) (hrt : rightT L = true) (hm : mayE e = true) (hv : e.v = true) (w : World) (hr : RowV KS w A L c) :
    Calls Tryd.prog 25 #[.agg #[.slice A L.length c], .agg (enC e), .int .i64 v] w (TlbR (putT e v L) w) := by
  have hl := rt_len hrt
  rcases Nat.eq_zero_or_pos L.length with h0 | hp
  · obtain rfl := List.eq_nil_of_length_eq_zero h0
    exact (rput14_nil A c e v w).mono fun r w' ⟨h1, hE⟩ => ⟨A, c, by rw [putT_nil rfl]; exact h1, by rw [putT_nil rfl]; exact hr.ext hE, hE⟩
  · have k := may_v hm hv
    exact (rput14_c A L c (by omega) hp e v k.l0 k.l2 (by have := (may_lt hm).1; omega) (right_t (rt_s hrt (ix_lt hp _ _))) w hr).mono fun r w' ⟨A', c', h1, h2, _, h4⟩ => ⟨A', c', h1, h2, h4⟩
theorem newG_y {m : Int} (h : 0 ≤ m ∧ m ≤ 16) : newG m = 0 := by unfold newG; rw [if_pos h]
theorem newG_n {m : Int} (h : ¬ (0 ≤ m ∧ m ≤ 16)) : newG m = 1 := by unfold newG; rw [if_neg h]
theorem newL_y {m : Int} (h : 0 ≤ m ∧ m ≤ 16) : newL m = List.replicate m.toNat s0 := by unfold newL; rw [if_pos h]
attribute [irreducible] newL newG drpL drpG
set_option maxRecDepth 100000 in
set_option maxHeartbeats 8000000 in
theorem TlbDoes_w (C : TlbC) (A : Option Addr) (L : List St) (c : Nat) (e : En) (v i y : Int) (n a : Nat) (m : Int) (he : e.ok) (n1 : n < 18446744073709551616) (a1 : a < 18446744073709551616) (hok : ∀ i, i < L.length → (sT L i).ok) (w : World) (hr : RowV KS w A L c) (hT : Lays w) :
    Calls Tryd.prog 3 #[.agg #[.slice A L.length c], .agg (enC e), .int .i64 v, .int .i64 i, .int .i64 y, .int .u64 (n : Int), .int .u64 (a : Int), .int .i64 m] w fun r w' => r = .returned (.bool true) ∧ Ext w w' := by
  have h1 : Blk ((w.alloc (.cells #[.slice A L.length c] 24)).alloc (.cells (enC e) 29)) w.heap.size 24 #[.slice A L.length c] := (Blk.new w _ _).alloc _
  have h2 : Blk ((w.alloc (.cells #[.slice A L.length c] 24)).alloc (.cells (enC e) 29)) (w.heap.size + 1) 29 (enC e) := blk_at (by simp)
  have HE := Lib.hid (((Ext.refl w).alloc (.cells #[.slice A L.length c] 24)).alloc (.cells (enC e) 29))
  have hrow : ∀ W : World, Ext w W → RowV KS W A L c := fun W h => hr.ext h
  have hLm : L.length ≤ 9223372036854775807 := Nat.le_trans hr.2.2.1 hr.2.2.2
  have crr := fun w h => rright14_c A L c hLm w h
  have cri := fun w h k => C.right A L c w hok h k
  clear hr
  have x1 : ∀ W : World, Blk W w.heap.size 24 #[.slice A L.length c] → W.cell? ⟨w.heap.size, 0, none⟩ = some (.slice A L.length c) := fun W h => (h.cell 0).trans rfl
  by_cases h20 : 20 < L.length
  · have d0 : decide (20 < (L.length : Int)) = true := by simp; omega
    clear h20
    go_enter Tryd.func3, Tryd.ntmps3
    go_wp2_with (fail); refine (C.awake _ (hT.ext HE.out)).mono ?_; rintro e w' ⟨rfl, hE⟩; (try replace hb := hb.ext hE); (try replace hm := hm.ext hE); (try replace h1 := h1.ext hE); (try replace h2 := h2.ext hE); (try replace h3 := h3.ext hE); (try replace h4 := h4.ext hE); (try replace h5 := h5.ext hE); (try replace h6 := h6.ext hE); (try replace h7 := h7.ext hE); (try replace HE := Lib.hid (HE.out.trans hE))
    clear hE
    have x2 := x1 _ h1
    clear x1
    go_wp2_with ((first | (refine wpList_load_blk (by rfl) 29 _ rfl rfl (by first | exact h1 | exact h2 | exact h3 | exact h4 | exact h5 | exact h6 | exact h7 | exact hb) Tryd.underlying29 rfl (by kernel_rfl) ?_) | (refine wpList_load_blk (by rfl) 24 _ rfl rfl (by first | exact h1 | exact h2 | exact h3 | exact h4 | exact h5 | exact h6 | exact h7 | exact hb) Tryd.underlying24 rfl (by kernel_rfl) ?_))); refine (C.awake _ (hT.ext HE.out)).mono ?_; rintro e w' ⟨rfl, hE⟩; (try replace hb := hb.ext hE); (try replace hm := hm.ext hE); (try replace h1 := h1.ext hE); (try replace h2 := h2.ext hE); (try replace h3 := h3.ext hE); (try replace h4 := h4.ext hE); (try replace h5 := h5.ext hE); (try replace h6 := h6.ext hE); (try replace h7 := h7.ext hE); (try replace HE := Lib.hid (HE.out.trans hE))
    clear hE
    go_wp2
    go_ret
    exact ⟨rfl, HE.out⟩
  have d0 : decide (20 < (L.length : Int)) = false := by simp; omega
  have cnw := fun w k => new_any C m w k
  have hNl : (newL m).length ≤ 16 := by unfold newL; split <;> simp; omega
  have csn := fun A2 c2 A3 c3 w h k => rsame14_c A2 A3 (newL m) (newL m) c2 c3 (by omega) (by omega) w h k
  rw [show decide (newL m = newL m) = true by simp] at csn
  go_enter Tryd.func3, Tryd.ntmps3
  go_wp2_with (fail); refine (C.awake _ (hT.ext HE.out)).mono ?_; rintro e w' ⟨rfl, hE⟩; (try replace hb := hb.ext hE); (try replace hm := hm.ext hE); (try replace h1 := h1.ext hE); (try replace h2 := h2.ext hE); (try replace h3 := h3.ext hE); (try replace h4 := h4.ext hE); (try replace h5 := h5.ext hE); (try replace h6 := h6.ext hE); (try replace h7 := h7.ext hE); (try replace HE := Lib.hid (HE.out.trans hE))
  clear hE
  have x2 := x1 _ h1
  go_wp2_with (fail); refine (cnw _ (hT.ext HE.out)).mono ?_; rintro e w' ⟨A7, c7, rfl, r6, hE⟩; (try replace hb := hb.ext hE); (try replace hm := hm.ext hE); (try replace h1 := h1.ext hE); (try replace h2 := h2.ext hE); (try replace h3 := h3.ext hE); (try replace h4 := h4.ext hE); (try replace h5 := h5.ext hE); (try replace h6 := h6.ext hE); (try replace h7 := h7.ext hE); (try replace HE := Lib.hid (HE.out.trans hE))
  clear x2
  clear hE
  have hE := (Ext.refl w').alloc (.cells (#[.slice A7 (newL m).length c7]) 24); (try replace hb := hb.ext hE); (try replace hm := hm.ext hE); (try replace h1 := h1.ext hE); (try replace h2 := h2.ext hE); (try replace h3 := h3.ext hE); (try replace h4 := h4.ext hE); (try replace h5 := h5.ext hE); (try replace h6 := h6.ext hE); (try replace h7 := h7.ext hE); (try replace HE := Lib.hid (HE.out.trans hE)); (try replace r0 := r0.ext hE); (try replace r1 := r1.ext hE); (try replace r2 := r2.ext hE); (try replace r3 := r3.ext hE); (try replace r4 := r4.ext hE); (try replace r5 := r5.ext hE); (try replace r6 := r6.ext hE); clear hE; have h7 := Blk.new w' 24 (#[.slice A7 (newL m).length c7]); go_upto_region 4 with (fail); generalize w'.heap.size = g7 at *; generalize w'.alloc (.cells (#[.slice A7 (newL m).length c7]) 24) = W7 at *
  have hg7 := h7.lt
  go_cut [78] from 48 to 78 (fun z wx => z = .bool false ∧ Blk wx w.heap.size 24 #[.slice A L.length c] ∧ Blk wx (w.heap.size + 1) 29 (enC e) ∧ Ext w wx)
  case first =>
    by_cases hm : 0 ≤ m ∧ m ≤ 16
    · have g0 : (newG m == 0) = true := by rw [newG_y hm]; rfl
      have g1 : (newG m != 0) = false := by rw [newG_y hm]; rfl
      have z1 : decide (0 ≤ m) = true := by simp; omega
      have z2 : decide (m ≤ 16) = true := by simp; omega
      have hln : (((newL m).length : Nat) : Int) = m := by rw [newL_y hm, List.length_replicate]; omega
      have hL' : newL m = List.replicate (newL m).length s0 := by rw [newL_y hm, List.length_replicate]
      have hmin : (if (16 : Int) < m then (16 : Int) else m) = m := if_neg (by omega)
      have hmax : (if (0 : Int) < m then m else 0) = m := by split <;> omega
      have hmk := make_zs (newL m).length (by omega)
      have hzr := zs_row (newL m).length (by omega)
      rw [← hL'] at hzr
      rw [hln] at hmk
      clear hL' hln hNl cnw hg7 cri crr hm
      generalize zsC (newL m).length = zs at *
      go_wp2_with fail
      (try replace hb := Blk.drew hb); (try replace hm := Blk.drew hm); (try replace h1 := Blk.drew h1); (try replace h2 := Blk.drew h2); (try replace h3 := Blk.drew h3); (try replace h4 := Blk.drew h4); (try replace h5 := Blk.drew h5); (try replace h6 := Blk.drew h6); (try replace h7 := Blk.drew h7); replace HE := Lib.hid HE.out.drew
      replace r6 := r6.ext (Ext.refl _).drew
      refine wp_region_seq [(0, false), (1, false), (2, false), (3, false), (4, false), (5, false), (6, false), (7, false), (8, false), (9, false), (10, false), (11, false), (12, false), (13, false), (14, false), (15, false), (16, false), (17, false), (18, false), (19, false), (20, false), (21, false), (22, false), (23, false), (24, false), (25, true), (26, false), (27, true), (28, false), (29, false), (30, false)] Ext (by kernel_rfl) (by kernel_rfl) Ext.refl (fun _ _ _ => Ext.trans) ?_; simp only [List.map, nth_z, nth_s]
      (try simp only [Act.put, List.setIfInBounds_toArray, List.set_cons_zero, List.set_cons_succ])
      (repeat (first | (refine seq_skip (by rfl) ?_; intro K hK; simp only [Act.put, List.setIfInBounds_toArray, List.set_cons_zero, List.set_cons_succ]; refine hK _ ?_; clear hK K) | (refine seq_skipc (by rfl) ?_; intro K hK; simp only [Act.put, List.setIfInBounds_toArray, List.set_cons_zero, List.set_cons_succ]; refine hK _ ?_; clear hK K) | (refine seq_read (by rfl) (by rfl) ?_; intro K hK; go_big_quiet_op; first | go_big_quiet_on | (refine ⟨_, fun _ _ => rfl, ?_⟩; go_big_quiet_on))))
      refine seq_load rfl rfl (fun x hx => Blk.ext (h7) hx) rfl Tryd.underlying24 (by kernel_rfl) (by rfl) ?_; intro K hK; simp only [Act.put, List.setIfInBounds_toArray, List.set_cons_zero, List.set_cons_succ]; refine hK _ ?_; clear hK K
      (repeat (first | (refine seq_skip (by rfl) ?_; intro K hK; simp only [Act.put, List.setIfInBounds_toArray, List.set_cons_zero, List.set_cons_succ]; refine hK _ ?_; clear hK K) | (refine seq_skipc (by rfl) ?_; intro K hK; simp only [Act.put, List.setIfInBounds_toArray, List.set_cons_zero, List.set_cons_succ]; refine hK _ ?_; clear hK K) | (refine seq_read (by rfl) (by rfl) ?_; intro K hK; go_big_quiet_op; first | go_big_quiet_on | (refine ⟨_, fun _ _ => rfl, ?_⟩; go_big_quiet_on))))
      refine seq_run (.slice (some ⟨W7.drew.heap.size, 0, none⟩) (newL m).length (newL m).length) (W7.drew.alloc (.cells zs 52)) (by rfl) ?_ ((Ext.refl _).alloc _) ?_; (simp [go_sem, execOp, Act.eval, hmk, hmax]); intro K hK; simp only [Act.put, List.setIfInBounds_toArray, List.set_cons_zero, List.set_cons_succ]; refine hK _ _ ?_; clear hK K
      have r5 := hzr W7.drew
      have hE := (Ext.refl W7.drew).alloc (.cells zs 52)
      (try replace hb := hb.ext hE); (try replace hm := hm.ext hE); (try replace h1 := h1.ext hE); (try replace h2 := h2.ext hE); (try replace h3 := h3.ext hE); (try replace h4 := h4.ext hE); (try replace h5 := h5.ext hE); (try replace h6 := h6.ext hE); (try replace h7 := h7.ext hE); (try replace HE := Lib.hid (HE.out.trans hE)); (try replace r0 := r0.ext hE); (try replace r1 := r1.ext hE); (try replace r2 := r2.ext hE); (try replace r3 := r3.ext hE); (try replace r4 := r4.ext hE); (try replace r5 := r5.ext hE); (try replace r6 := r6.ext hE)
      clear hE
      (repeat (first | (refine seq_skip (by rfl) ?_; intro K hK; simp only [Act.put, List.setIfInBounds_toArray, List.set_cons_zero, List.set_cons_succ]; refine hK _ ?_; clear hK K) | (refine seq_skipc (by rfl) ?_; intro K hK; simp only [Act.put, List.setIfInBounds_toArray, List.set_cons_zero, List.set_cons_succ]; refine hK _ ?_; clear hK K) | (refine seq_read (by rfl) (by rfl) ?_; intro K hK; go_big_quiet_op; first | go_big_quiet_on | (refine ⟨_, fun _ _ => rfl, ?_⟩; go_big_quiet_on))))
      refine seq_value ((.agg #[.slice (some ⟨W7.drew.heap.size, 0, none⟩) (newL m).length (newL m).length])) (by rfl) (fun x hx => by simp [go_sem, execOp, Act.eval]) ?_; intro K hK; simp only [Act.put, List.setIfInBounds_toArray, List.set_cons_zero, List.set_cons_succ]; refine hK _ ?_; clear hK K
      (repeat (first | (refine seq_skip (by rfl) ?_; intro K hK; simp only [Act.put, List.setIfInBounds_toArray, List.set_cons_zero, List.set_cons_succ]; refine hK _ ?_; clear hK K) | (refine seq_skipc (by rfl) ?_; intro K hK; simp only [Act.put, List.setIfInBounds_toArray, List.set_cons_zero, List.set_cons_succ]; refine hK _ ?_; clear hK K) | (refine seq_read (by rfl) (by rfl) ?_; intro K hK; go_big_quiet_op; first | go_big_quiet_on | (refine ⟨_, fun _ _ => rfl, ?_⟩; go_big_quiet_on))))
      refine seq_call (csn _ _ _ _ _ r6 r5) rfl Tryd.func11 (by kernel_rfl) (by kernel_rfl) (by rfl) (by rfl) ?_; intro K hK; rintro e w' ⟨rfl, hE⟩; refine ⟨_, rfl, hE, ?_⟩; simp only [Act.put, List.setIfInBounds_toArray, List.set_cons_zero, List.set_cons_succ]; refine hK _ _ ?_; clear hK K
      (try replace hb := hb.ext hE); (try replace hm := hm.ext hE); (try replace h1 := h1.ext hE); (try replace h2 := h2.ext hE); (try replace h3 := h3.ext hE); (try replace h4 := h4.ext hE); (try replace h5 := h5.ext hE); (try replace h6 := h6.ext hE); (try replace h7 := h7.ext hE); (try replace HE := Lib.hid (HE.out.trans hE)); (try replace r0 := r0.ext hE); (try replace r1 := r1.ext hE); (try replace r2 := r2.ext hE); (try replace r3 := r3.ext hE); (try replace r4 := r4.ext hE); (try replace r5 := r5.ext hE); (try replace r6 := r6.ext hE)
      clear hE
      (repeat (first | (refine seq_skip (by rfl) ?_; intro K hK; simp only [Act.put, List.setIfInBounds_toArray, List.set_cons_zero, List.set_cons_succ]; refine hK _ ?_; clear hK K) | (refine seq_skipc (by rfl) ?_; intro K hK; simp only [Act.put, List.setIfInBounds_toArray, List.set_cons_zero, List.set_cons_succ]; refine hK _ ?_; clear hK K) | (refine seq_read (by rfl) (by rfl) ?_; intro K hK; go_big_quiet_op; first | go_big_quiet_on | (refine ⟨_, fun _ _ => rfl, ?_⟩; go_big_quiet_on))))
      refine seq_done ?_
      go_wp2_with fail
      go_meet
      case rel => exact ⟨rfl, h1, h2, HE.out⟩
    · have g0 : (newG m == 0) = false := by rw [newG_n hm]; rfl
      have g1 : (newG m != 0) = true := by rw [newG_n hm]; rfl
      have g2 : (newG m != 1) = false := by rw [newG_n hm]; rfl
      clear csn cnw hNl cri crr hg7
      cases z1 : decide (0 ≤ m)
      · clear hm
        go_wp2_with fail
        (try replace hb := Blk.drew hb); (try replace hm := Blk.drew hm); (try replace h1 := Blk.drew h1); (try replace h2 := Blk.drew h2); (try replace h3 := Blk.drew h3); (try replace h4 := Blk.drew h4); (try replace h5 := Blk.drew h5); (try replace h6 := Blk.drew h6); (try replace h7 := Blk.drew h7); replace HE := Lib.hid HE.out.drew
        refine wp_region_seq [(0, false), (1, false), (2, false), (3, false), (4, false), (5, false), (6, false), (7, false), (8, false), (9, false), (10, false), (11, false), (12, false), (13, false), (14, false), (15, false), (16, false), (17, false), (18, false), (19, false), (20, false), (21, false), (22, false), (23, false), (24, false), (25, true), (26, false), (27, true), (28, false), (29, false), (30, false)] Ext (by kernel_rfl) (by kernel_rfl) Ext.refl (fun _ _ _ => Ext.trans) ?_; simp only [List.map, nth_z, nth_s]
        (try simp only [Act.put, List.setIfInBounds_toArray, List.set_cons_zero, List.set_cons_succ])
        (repeat (first | (refine seq_skip (by rfl) ?_; intro K hK; simp only [Act.put, List.setIfInBounds_toArray, List.set_cons_zero, List.set_cons_succ]; refine hK _ ?_; clear hK K) | (refine seq_skipc (by rfl) ?_; intro K hK; simp only [Act.put, List.setIfInBounds_toArray, List.set_cons_zero, List.set_cons_succ]; refine hK _ ?_; clear hK K) | (refine seq_read (by rfl) (by rfl) ?_; intro K hK; go_big_quiet_op; first | go_big_quiet_on | (refine ⟨_, fun _ _ => rfl, ?_⟩; go_big_quiet_on))))
        refine seq_done ?_
        go_wp2_with fail
        go_meet
        case rel => exact ⟨rfl, h1, h2, HE.out⟩
      · have z2 : decide (m ≤ 16) = false := by simp at z1 ⊢; omega
        clear hm
        go_wp2_with fail
        (try replace hb := Blk.drew hb); (try replace hm := Blk.drew hm); (try replace h1 := Blk.drew h1); (try replace h2 := Blk.drew h2); (try replace h3 := Blk.drew h3); (try replace h4 := Blk.drew h4); (try replace h5 := Blk.drew h5); (try replace h6 := Blk.drew h6); (try replace h7 := Blk.drew h7); replace HE := Lib.hid HE.out.drew
        refine wp_region_seq [(0, false), (1, false), (2, false), (3, false), (4, false), (5, false), (6, false), (7, false), (8, false), (9, false), (10, false), (11, false), (12, false), (13, false), (14, false), (15, false), (16, false), (17, false), (18, false), (19, false), (20, false), (21, false), (22, false), (23, false), (24, false), (25, true), (26, false), (27, true), (28, false), (29, false), (30, false)] Ext (by kernel_rfl) (by kernel_rfl) Ext.refl (fun _ _ _ => Ext.trans) ?_; simp only [List.map, nth_z, nth_s]
        (try simp only [Act.put, List.setIfInBounds_toArray, List.set_cons_zero, List.set_cons_succ])
        (repeat (first | (refine seq_skip (by rfl) ?_; intro K hK; simp only [Act.put, List.setIfInBounds_toArray, List.set_cons_zero, List.set_cons_succ]; refine hK _ ?_; clear hK K) | (refine seq_skipc (by rfl) ?_; intro K hK; simp only [Act.put, List.setIfInBounds_toArray, List.set_cons_zero, List.set_cons_succ]; refine hK _ ?_; clear hK K) | (refine seq_read (by rfl) (by rfl) ?_; intro K hK; go_big_quiet_op; first | go_big_quiet_on | (refine ⟨_, fun _ _ => rfl, ?_⟩; go_big_quiet_on))))
        refine seq_done ?_
        go_wp2_with fail
        go_meet
        case rel => exact ⟨rfl, h1, h2, HE.out⟩
  case rest =>
    clear h1 h2 HE h7 r6
    obtain ⟨rfl, h1, h2, hE⟩ := hcut
    have HE := Lib.hid hE
    clear hE
    clear cnw csn hNl hg7 h20 d0 x1
    have rme := fun w => rmay12_c e w
    have cis := fun w => ris5_c (a : Int) (by omega) (by omega) w
    cases hrt : rightT L
    · rw [hrt] at crr cri
      go_wp2_with fail
      (try replace hb := Blk.drew hb); (try replace hm := Blk.drew hm); (try replace h1 := Blk.drew h1); (try replace h2 := Blk.drew h2); (try replace h3 := Blk.drew h3); (try replace h4 := Blk.drew h4); (try replace h5 := Blk.drew h5); (try replace h6 := Blk.drew h6); (try replace h7 := Blk.drew h7); replace HE := Lib.hid HE.out.drew
      refine wp_region_seq [(0, false), (2, false), (1, true), (3, true), (4, false), (5, false), (6, false), (7, true), (8, false), (9, false), (10, false), (11, false), (12, true), (13, false), (14, false), (15, false), (16, false), (17, true), (18, false), (19, false)] Ext (by kernel_rfl) (by kernel_rfl) Ext.refl (fun _ _ _ => Ext.trans) ?_; simp only [List.map, nth_z, nth_s]
      (try simp only [Act.put, List.setIfInBounds_toArray, List.set_cons_zero, List.set_cons_succ])
      refine seq_load rfl rfl (fun x hx => Blk.ext (h1) hx) rfl Tryd.underlying24 (by kernel_rfl) (by rfl) ?_; intro K hK; simp only [Act.put, List.setIfInBounds_toArray, List.set_cons_zero, List.set_cons_succ]; refine hK _ ?_; clear hK K
      (repeat (first | (refine seq_skip (by rfl) ?_; intro K hK; simp only [Act.put, List.setIfInBounds_toArray, List.set_cons_zero, List.set_cons_succ]; refine hK _ ?_; clear hK K) | (refine seq_skipc (by rfl) ?_; intro K hK; simp only [Act.put, List.setIfInBounds_toArray, List.set_cons_zero, List.set_cons_succ]; refine hK _ ?_; clear hK K) | (refine seq_read (by rfl) (by rfl) ?_; intro K hK; go_big_quiet_op; first | go_big_quiet_on | (refine ⟨_, fun _ _ => rfl, ?_⟩; go_big_quiet_on))))
      refine seq_load rfl rfl (fun x hx => Blk.ext (h1) hx) rfl Tryd.underlying24 (by kernel_rfl) (by rfl) ?_; intro K hK; simp only [Act.put, List.setIfInBounds_toArray, List.set_cons_zero, List.set_cons_succ]; refine hK _ ?_; clear hK K
      (repeat (first | (refine seq_skip (by rfl) ?_; intro K hK; simp only [Act.put, List.setIfInBounds_toArray, List.set_cons_zero, List.set_cons_succ]; refine hK _ ?_; clear hK K) | (refine seq_skipc (by rfl) ?_; intro K hK; simp only [Act.put, List.setIfInBounds_toArray, List.set_cons_zero, List.set_cons_succ]; refine hK _ ?_; clear hK K) | (refine seq_read (by rfl) (by rfl) ?_; intro K hK; go_big_quiet_op; first | go_big_quiet_on | (refine ⟨_, fun _ _ => rfl, ?_⟩; go_big_quiet_on))))
      refine seq_call (cri _ (hrow _ HE.out) (hT.ext HE.out)) rfl Tryd.func12 (by kernel_rfl) (by kernel_rfl) (by rfl) (by rfl) ?_; intro K hK; rintro e w' ⟨rfl, hE⟩; refine ⟨_, rfl, hE, ?_⟩; simp only [Act.put, List.setIfInBounds_toArray, List.set_cons_zero, List.set_cons_succ]; refine hK _ _ ?_; clear hK K
      (try replace hb := hb.ext hE); (try replace hm := hm.ext hE); (try replace h1 := h1.ext hE); (try replace h2 := h2.ext hE); (try replace h3 := h3.ext hE); (try replace h4 := h4.ext hE); (try replace h5 := h5.ext hE); (try replace h6 := h6.ext hE); (try replace h7 := h7.ext hE); (try replace HE := Lib.hid (HE.out.trans hE)); (try replace r0 := r0.ext hE); (try replace r1 := r1.ext hE); (try replace r2 := r2.ext hE); (try replace r3 := r3.ext hE); (try replace r4 := r4.ext hE); (try replace r5 := r5.ext hE); (try replace r6 := r6.ext hE)
      clear hE
      refine seq_call (crr _ (hrow _ HE.out)) rfl Tryd.func13 (by kernel_rfl) (by kernel_rfl) (by rfl) (by rfl) ?_; intro K hK; rintro e w' ⟨rfl, hE⟩; refine ⟨_, rfl, hE, ?_⟩; simp only [Act.put, List.setIfInBounds_toArray, List.set_cons_zero, List.set_cons_succ]; refine hK _ _ ?_; clear hK K
      (try replace hb := hb.ext hE); (try replace hm := hm.ext hE); (try replace h1 := h1.ext hE); (try replace h2 := h2.ext hE); (try replace h3 := h3.ext hE); (try replace h4 := h4.ext hE); (try replace h5 := h5.ext hE); (try replace h6 := h6.ext hE); (try replace h7 := h7.ext hE); (try replace HE := Lib.hid (HE.out.trans hE)); (try replace r0 := r0.ext hE); (try replace r1 := r1.ext hE); (try replace r2 := r2.ext hE); (try replace r3 := r3.ext hE); (try replace r4 := r4.ext hE); (try replace r5 := r5.ext hE); (try replace r6 := r6.ext hE)
      clear hE
      (repeat (first | (refine seq_skip (by rfl) ?_; intro K hK; simp only [Act.put, List.setIfInBounds_toArray, List.set_cons_zero, List.set_cons_succ]; refine hK _ ?_; clear hK K) | (refine seq_skipc (by rfl) ?_; intro K hK; simp only [Act.put, List.setIfInBounds_toArray, List.set_cons_zero, List.set_cons_succ]; refine hK _ ?_; clear hK K) | (refine seq_read (by rfl) (by rfl) ?_; intro K hK; go_big_quiet_op; first | go_big_quiet_on | (refine ⟨_, fun _ _ => rfl, ?_⟩; go_big_quiet_on))))
      refine seq_load rfl rfl (fun x hx => Blk.ext (h1) hx) rfl Tryd.underlying24 (by kernel_rfl) (by rfl) ?_; intro K hK; simp only [Act.put, List.setIfInBounds_toArray, List.set_cons_zero, List.set_cons_succ]; refine hK _ ?_; clear hK K
      (repeat (first | (refine seq_skip (by rfl) ?_; intro K hK; simp only [Act.put, List.setIfInBounds_toArray, List.set_cons_zero, List.set_cons_succ]; refine hK _ ?_; clear hK K) | (refine seq_skipc (by rfl) ?_; intro K hK; simp only [Act.put, List.setIfInBounds_toArray, List.set_cons_zero, List.set_cons_succ]; refine hK _ ?_; clear hK K) | (refine seq_read (by rfl) (by rfl) ?_; intro K hK; go_big_quiet_op; first | go_big_quiet_on | (refine ⟨_, fun _ _ => rfl, ?_⟩; go_big_quiet_on))))
      refine seq_call (crr _ (hrow _ HE.out)) rfl Tryd.func13 (by kernel_rfl) (by kernel_rfl) (by rfl) (by rfl) ?_; intro K hK; rintro e w' ⟨rfl, hE⟩; refine ⟨_, rfl, hE, ?_⟩; simp only [Act.put, List.setIfInBounds_toArray, List.set_cons_zero, List.set_cons_succ]; refine hK _ _ ?_; clear hK K
      (try replace hb := hb.ext hE); (try replace hm := hm.ext hE); (try replace h1 := h1.ext hE); (try replace h2 := h2.ext hE); (try replace h3 := h3.ext hE); (try replace h4 := h4.ext hE); (try replace h5 := h5.ext hE); (try replace h6 := h6.ext hE); (try replace h7 := h7.ext hE); (try replace HE := Lib.hid (HE.out.trans hE)); (try replace r0 := r0.ext hE); (try replace r1 := r1.ext hE); (try replace r2 := r2.ext hE); (try replace r3 := r3.ext hE); (try replace r4 := r4.ext hE); (try replace r5 := r5.ext hE); (try replace r6 := r6.ext hE)
      clear hE
      (repeat (first | (refine seq_skip (by rfl) ?_; intro K hK; simp only [Act.put, List.setIfInBounds_toArray, List.set_cons_zero, List.set_cons_succ]; refine hK _ ?_; clear hK K) | (refine seq_skipc (by rfl) ?_; intro K hK; simp only [Act.put, List.setIfInBounds_toArray, List.set_cons_zero, List.set_cons_succ]; refine hK _ ?_; clear hK K) | (refine seq_read (by rfl) (by rfl) ?_; intro K hK; go_big_quiet_op; first | go_big_quiet_on | (refine ⟨_, fun _ _ => rfl, ?_⟩; go_big_quiet_on))))
      refine seq_done ?_
      go_wp2_with fail
      (try replace hb := Blk.drew hb); (try replace hm := Blk.drew hm); (try replace h1 := Blk.drew h1); (try replace h2 := Blk.drew h2); (try replace h3 := Blk.drew h3); (try replace h4 := Blk.drew h4); (try replace h5 := Blk.drew h5); (try replace h6 := Blk.drew h6); (try replace h7 := Blk.drew h7); replace HE := Lib.hid HE.out.drew
      refine wp_region_seq [(0, false), (2, false), (1, true), (3, true), (4, false), (5, false)] Ext (by kernel_rfl) (by kernel_rfl) Ext.refl (fun _ _ _ => Ext.trans) ?_; simp only [List.map, nth_z, nth_s]
      (try simp only [Act.put, List.setIfInBounds_toArray, List.set_cons_zero, List.set_cons_succ])
      refine seq_load rfl rfl (fun x hx => Blk.ext (h1) hx) rfl Tryd.underlying24 (by kernel_rfl) (by rfl) ?_; intro K hK; simp only [Act.put, List.setIfInBounds_toArray, List.set_cons_zero, List.set_cons_succ]; refine hK _ ?_; clear hK K
      (repeat (first | (refine seq_skip (by rfl) ?_; intro K hK; simp only [Act.put, List.setIfInBounds_toArray, List.set_cons_zero, List.set_cons_succ]; refine hK _ ?_; clear hK K) | (refine seq_skipc (by rfl) ?_; intro K hK; simp only [Act.put, List.setIfInBounds_toArray, List.set_cons_zero, List.set_cons_succ]; refine hK _ ?_; clear hK K) | (refine seq_read (by rfl) (by rfl) ?_; intro K hK; go_big_quiet_op; first | go_big_quiet_on | (refine ⟨_, fun _ _ => rfl, ?_⟩; go_big_quiet_on))))
      refine seq_load rfl rfl (fun x hx => Blk.ext (h1) hx) rfl Tryd.underlying24 (by kernel_rfl) (by rfl) ?_; intro K hK; simp only [Act.put, List.setIfInBounds_toArray, List.set_cons_zero, List.set_cons_succ]; refine hK _ ?_; clear hK K
      (repeat (first | (refine seq_skip (by rfl) ?_; intro K hK; simp only [Act.put, List.setIfInBounds_toArray, List.set_cons_zero, List.set_cons_succ]; refine hK _ ?_; clear hK K) | (refine seq_skipc (by rfl) ?_; intro K hK; simp only [Act.put, List.setIfInBounds_toArray, List.set_cons_zero, List.set_cons_succ]; refine hK _ ?_; clear hK K) | (refine seq_read (by rfl) (by rfl) ?_; intro K hK; go_big_quiet_op; first | go_big_quiet_on | (refine ⟨_, fun _ _ => rfl, ?_⟩; go_big_quiet_on))))
      refine seq_call (cri _ (hrow _ HE.out) (hT.ext HE.out)) rfl Tryd.func12 (by kernel_rfl) (by kernel_rfl) (by rfl) (by rfl) ?_; intro K hK; rintro e w' ⟨rfl, hE⟩; refine ⟨_, rfl, hE, ?_⟩; simp only [Act.put, List.setIfInBounds_toArray, List.set_cons_zero, List.set_cons_succ]; refine hK _ _ ?_; clear hK K
      (try replace hb := hb.ext hE); (try replace hm := hm.ext hE); (try replace h1 := h1.ext hE); (try replace h2 := h2.ext hE); (try replace h3 := h3.ext hE); (try replace h4 := h4.ext hE); (try replace h5 := h5.ext hE); (try replace h6 := h6.ext hE); (try replace h7 := h7.ext hE); (try replace HE := Lib.hid (HE.out.trans hE)); (try replace r0 := r0.ext hE); (try replace r1 := r1.ext hE); (try replace r2 := r2.ext hE); (try replace r3 := r3.ext hE); (try replace r4 := r4.ext hE); (try replace r5 := r5.ext hE); (try replace r6 := r6.ext hE)
      clear hE
      refine seq_call (crr _ (hrow _ HE.out)) rfl Tryd.func13 (by kernel_rfl) (by kernel_rfl) (by rfl) (by rfl) ?_; intro K hK; rintro e w' ⟨rfl, hE⟩; refine ⟨_, rfl, hE, ?_⟩; simp only [Act.put, List.setIfInBounds_toArray, List.set_cons_zero, List.set_cons_succ]; refine hK _ _ ?_; clear hK K
      (try replace hb := hb.ext hE); (try replace hm := hm.ext hE); (try replace h1 := h1.ext hE); (try replace h2 := h2.ext hE); (try replace h3 := h3.ext hE); (try replace h4 := h4.ext hE); (try replace h5 := h5.ext hE); (try replace h6 := h6.ext hE); (try replace h7 := h7.ext hE); (try replace HE := Lib.hid (HE.out.trans hE)); (try replace r0 := r0.ext hE); (try replace r1 := r1.ext hE); (try replace r2 := r2.ext hE); (try replace r3 := r3.ext hE); (try replace r4 := r4.ext hE); (try replace r5 := r5.ext hE); (try replace r6 := r6.ext hE)
      clear hE
      (repeat (first | (refine seq_skip (by rfl) ?_; intro K hK; simp only [Act.put, List.setIfInBounds_toArray, List.set_cons_zero, List.set_cons_succ]; refine hK _ ?_; clear hK K) | (refine seq_skipc (by rfl) ?_; intro K hK; simp only [Act.put, List.setIfInBounds_toArray, List.set_cons_zero, List.set_cons_succ]; refine hK _ ?_; clear hK K) | (refine seq_read (by rfl) (by rfl) ?_; intro K hK; go_big_quiet_op; first | go_big_quiet_on | (refine ⟨_, fun _ _ => rfl, ?_⟩; go_big_quiet_on))))
      refine seq_done ?_
      go_wp2
      go_ret
      exact ⟨rfl, HE.out⟩
    rw [hrt] at crr cri
    cases hm : mayE e
    · rw [hm] at rme
      go_wp2_with fail
      (try replace hb := Blk.drew hb); (try replace hm := Blk.drew hm); (try replace h1 := Blk.drew h1); (try replace h2 := Blk.drew h2); (try replace h3 := Blk.drew h3); (try replace h4 := Blk.drew h4); (try replace h5 := Blk.drew h5); (try replace h6 := Blk.drew h6); (try replace h7 := Blk.drew h7); replace HE := Lib.hid HE.out.drew
      refine wp_region_seq [(0, false), (2, false), (1, true), (3, true), (4, false), (5, false), (6, false), (7, true), (8, false), (9, false), (10, false), (11, false), (12, true), (13, false), (14, false), (15, false), (16, false), (17, true), (18, false), (19, false)] Ext (by kernel_rfl) (by kernel_rfl) Ext.refl (fun _ _ _ => Ext.trans) ?_; simp only [List.map, nth_z, nth_s]
      (try simp only [Act.put, List.setIfInBounds_toArray, List.set_cons_zero, List.set_cons_succ])
      refine seq_load rfl rfl (fun x hx => Blk.ext (h1) hx) rfl Tryd.underlying24 (by kernel_rfl) (by rfl) ?_; intro K hK; simp only [Act.put, List.setIfInBounds_toArray, List.set_cons_zero, List.set_cons_succ]; refine hK _ ?_; clear hK K
      (repeat (first | (refine seq_skip (by rfl) ?_; intro K hK; simp only [Act.put, List.setIfInBounds_toArray, List.set_cons_zero, List.set_cons_succ]; refine hK _ ?_; clear hK K) | (refine seq_skipc (by rfl) ?_; intro K hK; simp only [Act.put, List.setIfInBounds_toArray, List.set_cons_zero, List.set_cons_succ]; refine hK _ ?_; clear hK K) | (refine seq_read (by rfl) (by rfl) ?_; intro K hK; go_big_quiet_op; first | go_big_quiet_on | (refine ⟨_, fun _ _ => rfl, ?_⟩; go_big_quiet_on))))
      refine seq_load rfl rfl (fun x hx => Blk.ext (h1) hx) rfl Tryd.underlying24 (by kernel_rfl) (by rfl) ?_; intro K hK; simp only [Act.put, List.setIfInBounds_toArray, List.set_cons_zero, List.set_cons_succ]; refine hK _ ?_; clear hK K
      (repeat (first | (refine seq_skip (by rfl) ?_; intro K hK; simp only [Act.put, List.setIfInBounds_toArray, List.set_cons_zero, List.set_cons_succ]; refine hK _ ?_; clear hK K) | (refine seq_skipc (by rfl) ?_; intro K hK; simp only [Act.put, List.setIfInBounds_toArray, List.set_cons_zero, List.set_cons_succ]; refine hK _ ?_; clear hK K) | (refine seq_read (by rfl) (by rfl) ?_; intro K hK; go_big_quiet_op; first | go_big_quiet_on | (refine ⟨_, fun _ _ => rfl, ?_⟩; go_big_quiet_on))))
      refine seq_call (cri _ (hrow _ HE.out) (hT.ext HE.out)) rfl Tryd.func12 (by kernel_rfl) (by kernel_rfl) (by rfl) (by rfl) ?_; intro K hK; rintro e w' ⟨rfl, hE⟩; refine ⟨_, rfl, hE, ?_⟩; simp only [Act.put, List.setIfInBounds_toArray, List.set_cons_zero, List.set_cons_succ]; refine hK _ _ ?_; clear hK K
      (try replace hb := hb.ext hE); (try replace hm := hm.ext hE); (try replace h1 := h1.ext hE); (try replace h2 := h2.ext hE); (try replace h3 := h3.ext hE); (try replace h4 := h4.ext hE); (try replace h5 := h5.ext hE); (try replace h6 := h6.ext hE); (try replace h7 := h7.ext hE); (try replace HE := Lib.hid (HE.out.trans hE)); (try replace r0 := r0.ext hE); (try replace r1 := r1.ext hE); (try replace r2 := r2.ext hE); (try replace r3 := r3.ext hE); (try replace r4 := r4.ext hE); (try replace r5 := r5.ext hE); (try replace r6 := r6.ext hE)
      clear hE
      refine seq_call (crr _ (hrow _ HE.out)) rfl Tryd.func13 (by kernel_rfl) (by kernel_rfl) (by rfl) (by rfl) ?_; intro K hK; rintro e w' ⟨rfl, hE⟩; refine ⟨_, rfl, hE, ?_⟩; simp only [Act.put, List.setIfInBounds_toArray, List.set_cons_zero, List.set_cons_succ]; refine hK _ _ ?_; clear hK K
      (try replace hb := hb.ext hE); (try replace hm := hm.ext hE); (try replace h1 := h1.ext hE); (try replace h2 := h2.ext hE); (try replace h3 := h3.ext hE); (try replace h4 := h4.ext hE); (try replace h5 := h5.ext hE); (try replace h6 := h6.ext hE); (try replace h7 := h7.ext hE); (try replace HE := Lib.hid (HE.out.trans hE)); (try replace r0 := r0.ext hE); (try replace r1 := r1.ext hE); (try replace r2 := r2.ext hE); (try replace r3 := r3.ext hE); (try replace r4 := r4.ext hE); (try replace r5 := r5.ext hE); (try replace r6 := r6.ext hE)
      clear hE
      (repeat (first | (refine seq_skip (by rfl) ?_; intro K hK; simp only [Act.put, List.setIfInBounds_toArray, List.set_cons_zero, List.set_cons_succ]; refine hK _ ?_; clear hK K) | (refine seq_skipc (by rfl) ?_; intro K hK; simp only [Act.put, List.setIfInBounds_toArray, List.set_cons_zero, List.set_cons_succ]; refine hK _ ?_; clear hK K) | (refine seq_read (by rfl) (by rfl) ?_; intro K hK; go_big_quiet_op; first | go_big_quiet_on | (refine ⟨_, fun _ _ => rfl, ?_⟩; go_big_quiet_on))))
      refine seq_load rfl rfl (fun x hx => Blk.ext (h1) hx) rfl Tryd.underlying24 (by kernel_rfl) (by rfl) ?_; intro K hK; simp only [Act.put, List.setIfInBounds_toArray, List.set_cons_zero, List.set_cons_succ]; refine hK _ ?_; clear hK K
      (repeat (first | (refine seq_skip (by rfl) ?_; intro K hK; simp only [Act.put, List.setIfInBounds_toArray, List.set_cons_zero, List.set_cons_succ]; refine hK _ ?_; clear hK K) | (refine seq_skipc (by rfl) ?_; intro K hK; simp only [Act.put, List.setIfInBounds_toArray, List.set_cons_zero, List.set_cons_succ]; refine hK _ ?_; clear hK K) | (refine seq_read (by rfl) (by rfl) ?_; intro K hK; go_big_quiet_op; first | go_big_quiet_on | (refine ⟨_, fun _ _ => rfl, ?_⟩; go_big_quiet_on))))
      refine seq_call (crr _ (hrow _ HE.out)) rfl Tryd.func13 (by kernel_rfl) (by kernel_rfl) (by rfl) (by rfl) ?_; intro K hK; rintro e w' ⟨rfl, hE⟩; refine ⟨_, rfl, hE, ?_⟩; simp only [Act.put, List.setIfInBounds_toArray, List.set_cons_zero, List.set_cons_succ]; refine hK _ _ ?_; clear hK K
      (try replace hb := hb.ext hE); (try replace hm := hm.ext hE); (try replace h1 := h1.ext hE); (try replace h2 := h2.ext hE); (try replace h3 := h3.ext hE); (try replace h4 := h4.ext hE); (try replace h5 := h5.ext hE); (try replace h6 := h6.ext hE); (try replace h7 := h7.ext hE); (try replace HE := Lib.hid (HE.out.trans hE)); (try replace r0 := r0.ext hE); (try replace r1 := r1.ext hE); (try replace r2 := r2.ext hE); (try replace r3 := r3.ext hE); (try replace r4 := r4.ext hE); (try replace r5 := r5.ext hE); (try replace r6 := r6.ext hE)
      clear hE
      (repeat (first | (refine seq_skip (by rfl) ?_; intro K hK; simp only [Act.put, List.setIfInBounds_toArray, List.set_cons_zero, List.set_cons_succ]; refine hK _ ?_; clear hK K) | (refine seq_skipc (by rfl) ?_; intro K hK; simp only [Act.put, List.setIfInBounds_toArray, List.set_cons_zero, List.set_cons_succ]; refine hK _ ?_; clear hK K) | (refine seq_read (by rfl) (by rfl) ?_; intro K hK; go_big_quiet_op; first | go_big_quiet_on | (refine ⟨_, fun _ _ => rfl, ?_⟩; go_big_quiet_on))))
      refine seq_load rfl rfl (fun x hx => Blk.ext (h2) hx) rfl Tryd.underlying29 (by kernel_rfl) (by rfl) ?_; intro K hK; simp only [Act.put, List.setIfInBounds_toArray, List.set_cons_zero, List.set_cons_succ]; refine hK _ ?_; clear hK K
      (repeat (first | (refine seq_skip (by rfl) ?_; intro K hK; simp only [Act.put, List.setIfInBounds_toArray, List.set_cons_zero, List.set_cons_succ]; refine hK _ ?_; clear hK K) | (refine seq_skipc (by rfl) ?_; intro K hK; simp only [Act.put, List.setIfInBounds_toArray, List.set_cons_zero, List.set_cons_succ]; refine hK _ ?_; clear hK K) | (refine seq_read (by rfl) (by rfl) ?_; intro K hK; go_big_quiet_op; first | go_big_quiet_on | (refine ⟨_, fun _ _ => rfl, ?_⟩; go_big_quiet_on))))
      refine seq_call (rme _) rfl Tryd.func14 (by kernel_rfl) (by kernel_rfl) (by rfl) (by rfl) ?_; intro K hK; rintro e w' ⟨rfl, hE⟩; refine ⟨_, rfl, hE, ?_⟩; simp only [Act.put, List.setIfInBounds_toArray, List.set_cons_zero, List.set_cons_succ]; refine hK _ _ ?_; clear hK K
      (try replace hb := hb.ext hE); (try replace hm := hm.ext hE); (try replace h1 := h1.ext hE); (try replace h2 := h2.ext hE); (try replace h3 := h3.ext hE); (try replace h4 := h4.ext hE); (try replace h5 := h5.ext hE); (try replace h6 := h6.ext hE); (try replace h7 := h7.ext hE); (try replace HE := Lib.hid (HE.out.trans hE)); (try replace r0 := r0.ext hE); (try replace r1 := r1.ext hE); (try replace r2 := r2.ext hE); (try replace r3 := r3.ext hE); (try replace r4 := r4.ext hE); (try replace r5 := r5.ext hE); (try replace r6 := r6.ext hE)
      clear hE
      (repeat (first | (refine seq_skip (by rfl) ?_; intro K hK; simp only [Act.put, List.setIfInBounds_toArray, List.set_cons_zero, List.set_cons_succ]; refine hK _ ?_; clear hK K) | (refine seq_skipc (by rfl) ?_; intro K hK; simp only [Act.put, List.setIfInBounds_toArray, List.set_cons_zero, List.set_cons_succ]; refine hK _ ?_; clear hK K) | (refine seq_read (by rfl) (by rfl) ?_; intro K hK; go_big_quiet_op; first | go_big_quiet_on | (refine ⟨_, fun _ _ => rfl, ?_⟩; go_big_quiet_on))))
      refine seq_done ?_
      go_wp2_with fail
      (try replace hb := Blk.drew hb); (try replace hm := Blk.drew hm); (try replace h1 := Blk.drew h1); (try replace h2 := Blk.drew h2); (try replace h3 := Blk.drew h3); (try replace h4 := Blk.drew h4); (try replace h5 := Blk.drew h5); (try replace h6 := Blk.drew h6); (try replace h7 := Blk.drew h7); replace HE := Lib.hid HE.out.drew
      refine wp_region_seq [(0, false), (2, false), (1, true), (3, true), (4, false), (5, false)] Ext (by kernel_rfl) (by kernel_rfl) Ext.refl (fun _ _ _ => Ext.trans) ?_; simp only [List.map, nth_z, nth_s]
      (try simp only [Act.put, List.setIfInBounds_toArray, List.set_cons_zero, List.set_cons_succ])
      refine seq_load rfl rfl (fun x hx => Blk.ext (h1) hx) rfl Tryd.underlying24 (by kernel_rfl) (by rfl) ?_; intro K hK; simp only [Act.put, List.setIfInBounds_toArray, List.set_cons_zero, List.set_cons_succ]; refine hK _ ?_; clear hK K
      (repeat (first | (refine seq_skip (by rfl) ?_; intro K hK; simp only [Act.put, List.setIfInBounds_toArray, List.set_cons_zero, List.set_cons_succ]; refine hK _ ?_; clear hK K) | (refine seq_skipc (by rfl) ?_; intro K hK; simp only [Act.put, List.setIfInBounds_toArray, List.set_cons_zero, List.set_cons_succ]; refine hK _ ?_; clear hK K) | (refine seq_read (by rfl) (by rfl) ?_; intro K hK; go_big_quiet_op; first | go_big_quiet_on | (refine ⟨_, fun _ _ => rfl, ?_⟩; go_big_quiet_on))))
      refine seq_load rfl rfl (fun x hx => Blk.ext (h1) hx) rfl Tryd.underlying24 (by kernel_rfl) (by rfl) ?_; intro K hK; simp only [Act.put, List.setIfInBounds_toArray, List.set_cons_zero, List.set_cons_succ]; refine hK _ ?_; clear hK K
      (repeat (first | (refine seq_skip (by rfl) ?_; intro K hK; simp only [Act.put, List.setIfInBounds_toArray, List.set_cons_zero, List.set_cons_succ]; refine hK _ ?_; clear hK K) | (refine seq_skipc (by rfl) ?_; intro K hK; simp only [Act.put, List.setIfInBounds_toArray, List.set_cons_zero, List.set_cons_succ]; refine hK _ ?_; clear hK K) | (refine seq_read (by rfl) (by rfl) ?_; intro K hK; go_big_quiet_op; first | go_big_quiet_on | (refine ⟨_, fun _ _ => rfl, ?_⟩; go_big_quiet_on))))
      refine seq_call (cri _ (hrow _ HE.out) (hT.ext HE.out)) rfl Tryd.func12 (by kernel_rfl) (by kernel_rfl) (by rfl) (by rfl) ?_; intro K hK; rintro e w' ⟨rfl, hE⟩; refine ⟨_, rfl, hE, ?_⟩; simp only [Act.put, List.setIfInBounds_toArray, List.set_cons_zero, List.set_cons_succ]; refine hK _ _ ?_; clear hK K
      (try replace hb := hb.ext hE); (try replace hm := hm.ext hE); (try replace h1 := h1.ext hE); (try replace h2 := h2.ext hE); (try replace h3 := h3.ext hE); (try replace h4 := h4.ext hE); (try replace h5 := h5.ext hE); (try replace h6 := h6.ext hE); (try replace h7 := h7.ext hE); (try replace HE := Lib.hid (HE.out.trans hE)); (try replace r0 := r0.ext hE); (try replace r1 := r1.ext hE); (try replace r2 := r2.ext hE); (try replace r3 := r3.ext hE); (try replace r4 := r4.ext hE); (try replace r5 := r5.ext hE); (try replace r6 := r6.ext hE)
      clear hE
      refine seq_call (crr _ (hrow _ HE.out)) rfl Tryd.func13 (by kernel_rfl) (by kernel_rfl) (by rfl) (by rfl) ?_; intro K hK; rintro e w' ⟨rfl, hE⟩; refine ⟨_, rfl, hE, ?_⟩; simp only [Act.put, List.setIfInBounds_toArray, List.set_cons_zero, List.set_cons_succ]; refine hK _ _ ?_; clear hK K
      (try replace hb := hb.ext hE); (try replace hm := hm.ext hE); (try replace h1 := h1.ext hE); (try replace h2 := h2.ext hE); (try replace h3 := h3.ext hE); (try replace h4 := h4.ext hE); (try replace h5 := h5.ext hE); (try replace h6 := h6.ext hE); (try replace h7 := h7.ext hE); (try replace HE := Lib.hid (HE.out.trans hE)); (try replace r0 := r0.ext hE); (try replace r1 := r1.ext hE); (try replace r2 := r2.ext hE); (try replace r3 := r3.ext hE); (try replace r4 := r4.ext hE); (try replace r5 := r5.ext hE); (try replace r6 := r6.ext hE)
      clear hE
      (repeat (first | (refine seq_skip (by rfl) ?_; intro K hK; simp only [Act.put, List.setIfInBounds_toArray, List.set_cons_zero, List.set_cons_succ]; refine hK _ ?_; clear hK K) | (refine seq_skipc (by rfl) ?_; intro K hK; simp only [Act.put, List.setIfInBounds_toArray, List.set_cons_zero, List.set_cons_succ]; refine hK _ ?_; clear hK K) | (refine seq_read (by rfl) (by rfl) ?_; intro K hK; go_big_quiet_op; first | go_big_quiet_on | (refine ⟨_, fun _ _ => rfl, ?_⟩; go_big_quiet_on))))
      refine seq_done ?_
      go_wp2
      go_ret
      exact ⟨rfl, HE.out⟩
    rw [hm] at rme
    cases hva : vaB (a : Int)
    · rw [hva] at cis
      go_wp2_with fail
      (try replace hb := Blk.drew hb); (try replace hm := Blk.drew hm); (try replace h1 := Blk.drew h1); (try replace h2 := Blk.drew h2); (try replace h3 := Blk.drew h3); (try replace h4 := Blk.drew h4); (try replace h5 := Blk.drew h5); (try replace h6 := Blk.drew h6); (try replace h7 := Blk.drew h7); replace HE := Lib.hid HE.out.drew
      refine wp_region_seq [(0, false), (2, false), (1, true), (3, true), (4, false), (5, false), (6, false), (7, true), (8, false), (9, false), (10, false), (11, false), (12, true), (13, false), (14, false), (15, false), (16, false), (17, true), (18, false), (19, false)] Ext (by kernel_rfl) (by kernel_rfl) Ext.refl (fun _ _ _ => Ext.trans) ?_; simp only [List.map, nth_z, nth_s]
      (try simp only [Act.put, List.setIfInBounds_toArray, List.set_cons_zero, List.set_cons_succ])
      refine seq_load rfl rfl (fun x hx => Blk.ext (h1) hx) rfl Tryd.underlying24 (by kernel_rfl) (by rfl) ?_; intro K hK; simp only [Act.put, List.setIfInBounds_toArray, List.set_cons_zero, List.set_cons_succ]; refine hK _ ?_; clear hK K
      (repeat (first | (refine seq_skip (by rfl) ?_; intro K hK; simp only [Act.put, List.setIfInBounds_toArray, List.set_cons_zero, List.set_cons_succ]; refine hK _ ?_; clear hK K) | (refine seq_skipc (by rfl) ?_; intro K hK; simp only [Act.put, List.setIfInBounds_toArray, List.set_cons_zero, List.set_cons_succ]; refine hK _ ?_; clear hK K) | (refine seq_read (by rfl) (by rfl) ?_; intro K hK; go_big_quiet_op; first | go_big_quiet_on | (refine ⟨_, fun _ _ => rfl, ?_⟩; go_big_quiet_on))))
      refine seq_load rfl rfl (fun x hx => Blk.ext (h1) hx) rfl Tryd.underlying24 (by kernel_rfl) (by rfl) ?_; intro K hK; simp only [Act.put, List.setIfInBounds_toArray, List.set_cons_zero, List.set_cons_succ]; refine hK _ ?_; clear hK K
      (repeat (first | (refine seq_skip (by rfl) ?_; intro K hK; simp only [Act.put, List.setIfInBounds_toArray, List.set_cons_zero, List.set_cons_succ]; refine hK _ ?_; clear hK K) | (refine seq_skipc (by rfl) ?_; intro K hK; simp only [Act.put, List.setIfInBounds_toArray, List.set_cons_zero, List.set_cons_succ]; refine hK _ ?_; clear hK K) | (refine seq_read (by rfl) (by rfl) ?_; intro K hK; go_big_quiet_op; first | go_big_quiet_on | (refine ⟨_, fun _ _ => rfl, ?_⟩; go_big_quiet_on))))
      refine seq_call (cri _ (hrow _ HE.out) (hT.ext HE.out)) rfl Tryd.func12 (by kernel_rfl) (by kernel_rfl) (by rfl) (by rfl) ?_; intro K hK; rintro e w' ⟨rfl, hE⟩; refine ⟨_, rfl, hE, ?_⟩; simp only [Act.put, List.setIfInBounds_toArray, List.set_cons_zero, List.set_cons_succ]; refine hK _ _ ?_; clear hK K
      (try replace hb := hb.ext hE); (try replace hm := hm.ext hE); (try replace h1 := h1.ext hE); (try replace h2 := h2.ext hE); (try replace h3 := h3.ext hE); (try replace h4 := h4.ext hE); (try replace h5 := h5.ext hE); (try replace h6 := h6.ext hE); (try replace h7 := h7.ext hE); (try replace HE := Lib.hid (HE.out.trans hE)); (try replace r0 := r0.ext hE); (try replace r1 := r1.ext hE); (try replace r2 := r2.ext hE); (try replace r3 := r3.ext hE); (try replace r4 := r4.ext hE); (try replace r5 := r5.ext hE); (try replace r6 := r6.ext hE)
      clear hE
      refine seq_call (crr _ (hrow _ HE.out)) rfl Tryd.func13 (by kernel_rfl) (by kernel_rfl) (by rfl) (by rfl) ?_; intro K hK; rintro e w' ⟨rfl, hE⟩; refine ⟨_, rfl, hE, ?_⟩; simp only [Act.put, List.setIfInBounds_toArray, List.set_cons_zero, List.set_cons_succ]; refine hK _ _ ?_; clear hK K
      (try replace hb := hb.ext hE); (try replace hm := hm.ext hE); (try replace h1 := h1.ext hE); (try replace h2 := h2.ext hE); (try replace h3 := h3.ext hE); (try replace h4 := h4.ext hE); (try replace h5 := h5.ext hE); (try replace h6 := h6.ext hE); (try replace h7 := h7.ext hE); (try replace HE := Lib.hid (HE.out.trans hE)); (try replace r0 := r0.ext hE); (try replace r1 := r1.ext hE); (try replace r2 := r2.ext hE); (try replace r3 := r3.ext hE); (try replace r4 := r4.ext hE); (try replace r5 := r5.ext hE); (try replace r6 := r6.ext hE)
      clear hE
      (repeat (first | (refine seq_skip (by rfl) ?_; intro K hK; simp only [Act.put, List.setIfInBounds_toArray, List.set_cons_zero, List.set_cons_succ]; refine hK _ ?_; clear hK K) | (refine seq_skipc (by rfl) ?_; intro K hK; simp only [Act.put, List.setIfInBounds_toArray, List.set_cons_zero, List.set_cons_succ]; refine hK _ ?_; clear hK K) | (refine seq_read (by rfl) (by rfl) ?_; intro K hK; go_big_quiet_op; first | go_big_quiet_on | (refine ⟨_, fun _ _ => rfl, ?_⟩; go_big_quiet_on))))
      refine seq_load rfl rfl (fun x hx => Blk.ext (h1) hx) rfl Tryd.underlying24 (by kernel_rfl) (by rfl) ?_; intro K hK; simp only [Act.put, List.setIfInBounds_toArray, List.set_cons_zero, List.set_cons_succ]; refine hK _ ?_; clear hK K
      (repeat (first | (refine seq_skip (by rfl) ?_; intro K hK; simp only [Act.put, List.setIfInBounds_toArray, List.set_cons_zero, List.set_cons_succ]; refine hK _ ?_; clear hK K) | (refine seq_skipc (by rfl) ?_; intro K hK; simp only [Act.put, List.setIfInBounds_toArray, List.set_cons_zero, List.set_cons_succ]; refine hK _ ?_; clear hK K) | (refine seq_read (by rfl) (by rfl) ?_; intro K hK; go_big_quiet_op; first | go_big_quiet_on | (refine ⟨_, fun _ _ => rfl, ?_⟩; go_big_quiet_on))))
      refine seq_call (crr _ (hrow _ HE.out)) rfl Tryd.func13 (by kernel_rfl) (by kernel_rfl) (by rfl) (by rfl) ?_; intro K hK; rintro e w' ⟨rfl, hE⟩; refine ⟨_, rfl, hE, ?_⟩; simp only [Act.put, List.setIfInBounds_toArray, List.set_cons_zero, List.set_cons_succ]; refine hK _ _ ?_; clear hK K
      (try replace hb := hb.ext hE); (try replace hm := hm.ext hE); (try replace h1 := h1.ext hE); (try replace h2 := h2.ext hE); (try replace h3 := h3.ext hE); (try replace h4 := h4.ext hE); (try replace h5 := h5.ext hE); (try replace h6 := h6.ext hE); (try replace h7 := h7.ext hE); (try replace HE := Lib.hid (HE.out.trans hE)); (try replace r0 := r0.ext hE); (try replace r1 := r1.ext hE); (try replace r2 := r2.ext hE); (try replace r3 := r3.ext hE); (try replace r4 := r4.ext hE); (try replace r5 := r5.ext hE); (try replace r6 := r6.ext hE)
      clear hE
      (repeat (first | (refine seq_skip (by rfl) ?_; intro K hK; simp only [Act.put, List.setIfInBounds_toArray, List.set_cons_zero, List.set_cons_succ]; refine hK _ ?_; clear hK K) | (refine seq_skipc (by rfl) ?_; intro K hK; simp only [Act.put, List.setIfInBounds_toArray, List.set_cons_zero, List.set_cons_succ]; refine hK _ ?_; clear hK K) | (refine seq_read (by rfl) (by rfl) ?_; intro K hK; go_big_quiet_op; first | go_big_quiet_on | (refine ⟨_, fun _ _ => rfl, ?_⟩; go_big_quiet_on))))
      refine seq_load rfl rfl (fun x hx => Blk.ext (h2) hx) rfl Tryd.underlying29 (by kernel_rfl) (by rfl) ?_; intro K hK; simp only [Act.put, List.setIfInBounds_toArray, List.set_cons_zero, List.set_cons_succ]; refine hK _ ?_; clear hK K
      (repeat (first | (refine seq_skip (by rfl) ?_; intro K hK; simp only [Act.put, List.setIfInBounds_toArray, List.set_cons_zero, List.set_cons_succ]; refine hK _ ?_; clear hK K) | (refine seq_skipc (by rfl) ?_; intro K hK; simp only [Act.put, List.setIfInBounds_toArray, List.set_cons_zero, List.set_cons_succ]; refine hK _ ?_; clear hK K) | (refine seq_read (by rfl) (by rfl) ?_; intro K hK; go_big_quiet_op; first | go_big_quiet_on | (refine ⟨_, fun _ _ => rfl, ?_⟩; go_big_quiet_on))))
      refine seq_call (rme _) rfl Tryd.func14 (by kernel_rfl) (by kernel_rfl) (by rfl) (by rfl) ?_; intro K hK; rintro e w' ⟨rfl, hE⟩; refine ⟨_, rfl, hE, ?_⟩; simp only [Act.put, List.setIfInBounds_toArray, List.set_cons_zero, List.set_cons_succ]; refine hK _ _ ?_; clear hK K
      (try replace hb := hb.ext hE); (try replace hm := hm.ext hE); (try replace h1 := h1.ext hE); (try replace h2 := h2.ext hE); (try replace h3 := h3.ext hE); (try replace h4 := h4.ext hE); (try replace h5 := h5.ext hE); (try replace h6 := h6.ext hE); (try replace h7 := h7.ext hE); (try replace HE := Lib.hid (HE.out.trans hE)); (try replace r0 := r0.ext hE); (try replace r1 := r1.ext hE); (try replace r2 := r2.ext hE); (try replace r3 := r3.ext hE); (try replace r4 := r4.ext hE); (try replace r5 := r5.ext hE); (try replace r6 := r6.ext hE)
      clear hE
      (repeat (first | (refine seq_skip (by rfl) ?_; intro K hK; simp only [Act.put, List.setIfInBounds_toArray, List.set_cons_zero, List.set_cons_succ]; refine hK _ ?_; clear hK K) | (refine seq_skipc (by rfl) ?_; intro K hK; simp only [Act.put, List.setIfInBounds_toArray, List.set_cons_zero, List.set_cons_succ]; refine hK _ ?_; clear hK K) | (refine seq_read (by rfl) (by rfl) ?_; intro K hK; go_big_quiet_op; first | go_big_quiet_on | (refine ⟨_, fun _ _ => rfl, ?_⟩; go_big_quiet_on))))
      refine seq_call (calls_ext (cis _)) rfl Tryd.func15 (by kernel_rfl) (by kernel_rfl) (by rfl) (by rfl) ?_; intro K hK; rintro e w' ⟨rfl, hE⟩; refine ⟨_, rfl, hE, ?_⟩; simp only [Act.put, List.setIfInBounds_toArray, List.set_cons_zero, List.set_cons_succ]; refine hK _ _ ?_; clear hK K
      (try replace hb := hb.ext hE); (try replace hm := hm.ext hE); (try replace h1 := h1.ext hE); (try replace h2 := h2.ext hE); (try replace h3 := h3.ext hE); (try replace h4 := h4.ext hE); (try replace h5 := h5.ext hE); (try replace h6 := h6.ext hE); (try replace h7 := h7.ext hE); (try replace HE := Lib.hid (HE.out.trans hE)); (try replace r0 := r0.ext hE); (try replace r1 := r1.ext hE); (try replace r2 := r2.ext hE); (try replace r3 := r3.ext hE); (try replace r4 := r4.ext hE); (try replace r5 := r5.ext hE); (try replace r6 := r6.ext hE)
      clear hE
      (repeat (first | (refine seq_skip (by rfl) ?_; intro K hK; simp only [Act.put, List.setIfInBounds_toArray, List.set_cons_zero, List.set_cons_succ]; refine hK _ ?_; clear hK K) | (refine seq_skipc (by rfl) ?_; intro K hK; simp only [Act.put, List.setIfInBounds_toArray, List.set_cons_zero, List.set_cons_succ]; refine hK _ ?_; clear hK K) | (refine seq_read (by rfl) (by rfl) ?_; intro K hK; go_big_quiet_op; first | go_big_quiet_on | (refine ⟨_, fun _ _ => rfl, ?_⟩; go_big_quiet_on))))
      refine seq_done ?_
      go_wp2_with fail
      (try replace hb := Blk.drew hb); (try replace hm := Blk.drew hm); (try replace h1 := Blk.drew h1); (try replace h2 := Blk.drew h2); (try replace h3 := Blk.drew h3); (try replace h4 := Blk.drew h4); (try replace h5 := Blk.drew h5); (try replace h6 := Blk.drew h6); (try replace h7 := Blk.drew h7); replace HE := Lib.hid HE.out.drew
      refine wp_region_seq [(0, false), (2, false), (1, true), (3, true), (4, false), (5, false)] Ext (by kernel_rfl) (by kernel_rfl) Ext.refl (fun _ _ _ => Ext.trans) ?_; simp only [List.map, nth_z, nth_s]
      (try simp only [Act.put, List.setIfInBounds_toArray, List.set_cons_zero, List.set_cons_succ])
      refine seq_load rfl rfl (fun x hx => Blk.ext (h1) hx) rfl Tryd.underlying24 (by kernel_rfl) (by rfl) ?_; intro K hK; simp only [Act.put, List.setIfInBounds_toArray, List.set_cons_zero, List.set_cons_succ]; refine hK _ ?_; clear hK K
      (repeat (first | (refine seq_skip (by rfl) ?_; intro K hK; simp only [Act.put, List.setIfInBounds_toArray, List.set_cons_zero, List.set_cons_succ]; refine hK _ ?_; clear hK K) | (refine seq_skipc (by rfl) ?_; intro K hK; simp only [Act.put, List.setIfInBounds_toArray, List.set_cons_zero, List.set_cons_succ]; refine hK _ ?_; clear hK K) | (refine seq_read (by rfl) (by rfl) ?_; intro K hK; go_big_quiet_op; first | go_big_quiet_on | (refine ⟨_, fun _ _ => rfl, ?_⟩; go_big_quiet_on))))
      refine seq_load rfl rfl (fun x hx => Blk.ext (h1) hx) rfl Tryd.underlying24 (by kernel_rfl) (by rfl) ?_; intro K hK; simp only [Act.put, List.setIfInBounds_toArray, List.set_cons_zero, List.set_cons_succ]; refine hK _ ?_; clear hK K
      (repeat (first | (refine seq_skip (by rfl) ?_; intro K hK; simp only [Act.put, List.setIfInBounds_toArray, List.set_cons_zero, List.set_cons_succ]; refine hK _ ?_; clear hK K) | (refine seq_skipc (by rfl) ?_; intro K hK; simp only [Act.put, List.setIfInBounds_toArray, List.set_cons_zero, List.set_cons_succ]; refine hK _ ?_; clear hK K) | (refine seq_read (by rfl) (by rfl) ?_; intro K hK; go_big_quiet_op; first | go_big_quiet_on | (refine ⟨_, fun _ _ => rfl, ?_⟩; go_big_quiet_on))))
      refine seq_call (cri _ (hrow _ HE.out) (hT.ext HE.out)) rfl Tryd.func12 (by kernel_rfl) (by kernel_rfl) (by rfl) (by rfl) ?_; intro K hK; rintro e w' ⟨rfl, hE⟩; refine ⟨_, rfl, hE, ?_⟩; simp only [Act.put, List.setIfInBounds_toArray, List.set_cons_zero, List.set_cons_succ]; refine hK _ _ ?_; clear hK K
      (try replace hb := hb.ext hE); (try replace hm := hm.ext hE); (try replace h1 := h1.ext hE); (try replace h2 := h2.ext hE); (try replace h3 := h3.ext hE); (try replace h4 := h4.ext hE); (try replace h5 := h5.ext hE); (try replace h6 := h6.ext hE); (try replace h7 := h7.ext hE); (try replace HE := Lib.hid (HE.out.trans hE)); (try replace r0 := r0.ext hE); (try replace r1 := r1.ext hE); (try replace r2 := r2.ext hE); (try replace r3 := r3.ext hE); (try replace r4 := r4.ext hE); (try replace r5 := r5.ext hE); (try replace r6 := r6.ext hE)
      clear hE
      refine seq_call (crr _ (hrow _ HE.out)) rfl Tryd.func13 (by kernel_rfl) (by kernel_rfl) (by rfl) (by rfl) ?_; intro K hK; rintro e w' ⟨rfl, hE⟩; refine ⟨_, rfl, hE, ?_⟩; simp only [Act.put, List.setIfInBounds_toArray, List.set_cons_zero, List.set_cons_succ]; refine hK _ _ ?_; clear hK K
      (try replace hb := hb.ext hE); (try replace hm := hm.ext hE); (try replace h1 := h1.ext hE); (try replace h2 := h2.ext hE); (try replace h3 := h3.ext hE); (try replace h4 := h4.ext hE); (try replace h5 := h5.ext hE); (try replace h6 := h6.ext hE); (try replace h7 := h7.ext hE); (try replace HE := Lib.hid (HE.out.trans hE)); (try replace r0 := r0.ext hE); (try replace r1 := r1.ext hE); (try replace r2 := r2.ext hE); (try replace r3 := r3.ext hE); (try replace r4 := r4.ext hE); (try replace r5 := r5.ext hE); (try replace r6 := r6.ext hE)
      clear hE
      (repeat (first | (refine seq_skip (by rfl) ?_; intro K hK; simp only [Act.put, List.setIfInBounds_toArray, List.set_cons_zero, List.set_cons_succ]; refine hK _ ?_; clear hK K) | (refine seq_skipc (by rfl) ?_; intro K hK; simp only [Act.put, List.setIfInBounds_toArray, List.set_cons_zero, List.set_cons_succ]; refine hK _ ?_; clear hK K) | (refine seq_read (by rfl) (by rfl) ?_; intro K hK; go_big_quiet_op; first | go_big_quiet_on | (refine ⟨_, fun _ _ => rfl, ?_⟩; go_big_quiet_on))))
      refine seq_done ?_
      go_wp2
      go_ret
      exact ⟨rfl, HE.out⟩
    rw [hva] at cis
    go_wp2_with fail
    (try replace hb := Blk.drew hb); (try replace hm := Blk.drew hm); (try replace h1 := Blk.drew h1); (try replace h2 := Blk.drew h2); (try replace h3 := Blk.drew h3); (try replace h4 := Blk.drew h4); (try replace h5 := Blk.drew h5); (try replace h6 := Blk.drew h6); (try replace h7 := Blk.drew h7); replace HE := Lib.hid HE.out.drew
    refine wp_region_seq [(0, false), (2, false), (1, true), (3, true), (4, false), (5, false), (6, false), (7, true), (8, false), (9, false), (10, false), (11, false), (12, true), (13, false), (14, false), (15, false), (16, false), (17, true), (18, false), (19, false)] Ext (by kernel_rfl) (by kernel_rfl) Ext.refl (fun _ _ _ => Ext.trans) ?_; simp only [List.map, nth_z, nth_s]
    (try simp only [Act.put, List.setIfInBounds_toArray, List.set_cons_zero, List.set_cons_succ])
    refine seq_load rfl rfl (fun x hx => Blk.ext (h1) hx) rfl Tryd.underlying24 (by kernel_rfl) (by rfl) ?_; intro K hK; simp only [Act.put, List.setIfInBounds_toArray, List.set_cons_zero, List.set_cons_succ]; refine hK _ ?_; clear hK K
    (repeat (first | (refine seq_skip (by rfl) ?_; intro K hK; simp only [Act.put, List.setIfInBounds_toArray, List.set_cons_zero, List.set_cons_succ]; refine hK _ ?_; clear hK K) | (refine seq_skipc (by rfl) ?_; intro K hK; simp only [Act.put, List.setIfInBounds_toArray, List.set_cons_zero, List.set_cons_succ]; refine hK _ ?_; clear hK K) | (refine seq_read (by rfl) (by rfl) ?_; intro K hK; go_big_quiet_op; first | go_big_quiet_on | (refine ⟨_, fun _ _ => rfl, ?_⟩; go_big_quiet_on))))
    refine seq_load rfl rfl (fun x hx => Blk.ext (h1) hx) rfl Tryd.underlying24 (by kernel_rfl) (by rfl) ?_; intro K hK; simp only [Act.put, List.setIfInBounds_toArray, List.set_cons_zero, List.set_cons_succ]; refine hK _ ?_; clear hK K
    (repeat (first | (refine seq_skip (by rfl) ?_; intro K hK; simp only [Act.put, List.setIfInBounds_toArray, List.set_cons_zero, List.set_cons_succ]; refine hK _ ?_; clear hK K) | (refine seq_skipc (by rfl) ?_; intro K hK; simp only [Act.put, List.setIfInBounds_toArray, List.set_cons_zero, List.set_cons_succ]; refine hK _ ?_; clear hK K) | (refine seq_read (by rfl) (by rfl) ?_; intro K hK; go_big_quiet_op; first | go_big_quiet_on | (refine ⟨_, fun _ _ => rfl, ?_⟩; go_big_quiet_on))))
    refine seq_call (cri _ (hrow _ HE.out) (hT.ext HE.out)) rfl Tryd.func12 (by kernel_rfl) (by kernel_rfl) (by rfl) (by rfl) ?_; intro K hK; rintro e w' ⟨rfl, hE⟩; refine ⟨_, rfl, hE, ?_⟩; simp only [Act.put, List.setIfInBounds_toArray, List.set_cons_zero, List.set_cons_succ]; refine hK _ _ ?_; clear hK K
    (try replace hb := hb.ext hE); (try replace hm := hm.ext hE); (try replace h1 := h1.ext hE); (try replace h2 := h2.ext hE); (try replace h3 := h3.ext hE); (try replace h4 := h4.ext hE); (try replace h5 := h5.ext hE); (try replace h6 := h6.ext hE); (try replace h7 := h7.ext hE); (try replace HE := Lib.hid (HE.out.trans hE)); (try replace r0 := r0.ext hE); (try replace r1 := r1.ext hE); (try replace r2 := r2.ext hE); (try replace r3 := r3.ext hE); (try replace r4 := r4.ext hE); (try replace r5 := r5.ext hE); (try replace r6 := r6.ext hE)
    clear hE
    refine seq_call (crr _ (hrow _ HE.out)) rfl Tryd.func13 (by kernel_rfl) (by kernel_rfl) (by rfl) (by rfl) ?_; intro K hK; rintro e w' ⟨rfl, hE⟩; refine ⟨_, rfl, hE, ?_⟩; simp only [Act.put, List.setIfInBounds_toArray, List.set_cons_zero, List.set_cons_succ]; refine hK _ _ ?_; clear hK K
    (try replace hb := hb.ext hE); (try replace hm := hm.ext hE); (try replace h1 := h1.ext hE); (try replace h2 := h2.ext hE); (try replace h3 := h3.ext hE); (try replace h4 := h4.ext hE); (try replace h5 := h5.ext hE); (try replace h6 := h6.ext hE); (try replace h7 := h7.ext hE); (try replace HE := Lib.hid (HE.out.trans hE)); (try replace r0 := r0.ext hE); (try replace r1 := r1.ext hE); (try replace r2 := r2.ext hE); (try replace r3 := r3.ext hE); (try replace r4 := r4.ext hE); (try replace r5 := r5.ext hE); (try replace r6 := r6.ext hE)
    clear hE
    (repeat (first | (refine seq_skip (by rfl) ?_; intro K hK; simp only [Act.put, List.setIfInBounds_toArray, List.set_cons_zero, List.set_cons_succ]; refine hK _ ?_; clear hK K) | (refine seq_skipc (by rfl) ?_; intro K hK; simp only [Act.put, List.setIfInBounds_toArray, List.set_cons_zero, List.set_cons_succ]; refine hK _ ?_; clear hK K) | (refine seq_read (by rfl) (by rfl) ?_; intro K hK; go_big_quiet_op; first | go_big_quiet_on | (refine ⟨_, fun _ _ => rfl, ?_⟩; go_big_quiet_on))))
    refine seq_load rfl rfl (fun x hx => Blk.ext (h1) hx) rfl Tryd.underlying24 (by kernel_rfl) (by rfl) ?_; intro K hK; simp only [Act.put, List.setIfInBounds_toArray, List.set_cons_zero, List.set_cons_succ]; refine hK _ ?_; clear hK K
    (repeat (first | (refine seq_skip (by rfl) ?_; intro K hK; simp only [Act.put, List.setIfInBounds_toArray, List.set_cons_zero, List.set_cons_succ]; refine hK _ ?_; clear hK K) | (refine seq_skipc (by rfl) ?_; intro K hK; simp only [Act.put, List.setIfInBounds_toArray, List.set_cons_zero, List.set_cons_succ]; refine hK _ ?_; clear hK K) | (refine seq_read (by rfl) (by rfl) ?_; intro K hK; go_big_quiet_op; first | go_big_quiet_on | (refine ⟨_, fun _ _ => rfl, ?_⟩; go_big_quiet_on))))
    refine seq_call (crr _ (hrow _ HE.out)) rfl Tryd.func13 (by kernel_rfl) (by kernel_rfl) (by rfl) (by rfl) ?_; intro K hK; rintro e w' ⟨rfl, hE⟩; refine ⟨_, rfl, hE, ?_⟩; simp only [Act.put, List.setIfInBounds_toArray, List.set_cons_zero, List.set_cons_succ]; refine hK _ _ ?_; clear hK K
    (try replace hb := hb.ext hE); (try replace hm := hm.ext hE); (try replace h1 := h1.ext hE); (try replace h2 := h2.ext hE); (try replace h3 := h3.ext hE); (try replace h4 := h4.ext hE); (try replace h5 := h5.ext hE); (try replace h6 := h6.ext hE); (try replace h7 := h7.ext hE); (try replace HE := Lib.hid (HE.out.trans hE)); (try replace r0 := r0.ext hE); (try replace r1 := r1.ext hE); (try replace r2 := r2.ext hE); (try replace r3 := r3.ext hE); (try replace r4 := r4.ext hE); (try replace r5 := r5.ext hE); (try replace r6 := r6.ext hE)
    clear hE
    (repeat (first | (refine seq_skip (by rfl) ?_; intro K hK; simp only [Act.put, List.setIfInBounds_toArray, List.set_cons_zero, List.set_cons_succ]; refine hK _ ?_; clear hK K) | (refine seq_skipc (by rfl) ?_; intro K hK; simp only [Act.put, List.setIfInBounds_toArray, List.set_cons_zero, List.set_cons_succ]; refine hK _ ?_; clear hK K) | (refine seq_read (by rfl) (by rfl) ?_; intro K hK; go_big_quiet_op; first | go_big_quiet_on | (refine ⟨_, fun _ _ => rfl, ?_⟩; go_big_quiet_on))))
    refine seq_load rfl rfl (fun x hx => Blk.ext (h2) hx) rfl Tryd.underlying29 (by kernel_rfl) (by rfl) ?_; intro K hK; simp only [Act.put, List.setIfInBounds_toArray, List.set_cons_zero, List.set_cons_succ]; refine hK _ ?_; clear hK K
    (repeat (first | (refine seq_skip (by rfl) ?_; intro K hK; simp only [Act.put, List.setIfInBounds_toArray, List.set_cons_zero, List.set_cons_succ]; refine hK _ ?_; clear hK K) | (refine seq_skipc (by rfl) ?_; intro K hK; simp only [Act.put, List.setIfInBounds_toArray, List.set_cons_zero, List.set_cons_succ]; refine hK _ ?_; clear hK K) | (refine seq_read (by rfl) (by rfl) ?_; intro K hK; go_big_quiet_op; first | go_big_quiet_on | (refine ⟨_, fun _ _ => rfl, ?_⟩; go_big_quiet_on))))
    refine seq_call (rme _) rfl Tryd.func14 (by kernel_rfl) (by kernel_rfl) (by rfl) (by rfl) ?_; intro K hK; rintro e w' ⟨rfl, hE⟩; refine ⟨_, rfl, hE, ?_⟩; simp only [Act.put, List.setIfInBounds_toArray, List.set_cons_zero, List.set_cons_succ]; refine hK _ _ ?_; clear hK K
    (try replace hb := hb.ext hE); (try replace hm := hm.ext hE); (try replace h1 := h1.ext hE); (try replace h2 := h2.ext hE); (try replace h3 := h3.ext hE); (try replace h4 := h4.ext hE); (try replace h5 := h5.ext hE); (try replace h6 := h6.ext hE); (try replace h7 := h7.ext hE); (try replace HE := Lib.hid (HE.out.trans hE)); (try replace r0 := r0.ext hE); (try replace r1 := r1.ext hE); (try replace r2 := r2.ext hE); (try replace r3 := r3.ext hE); (try replace r4 := r4.ext hE); (try replace r5 := r5.ext hE); (try replace r6 := r6.ext hE)
    clear hE
    (repeat (first | (refine seq_skip (by rfl) ?_; intro K hK; simp only [Act.put, List.setIfInBounds_toArray, List.set_cons_zero, List.set_cons_succ]; refine hK _ ?_; clear hK K) | (refine seq_skipc (by rfl) ?_; intro K hK; simp only [Act.put, List.setIfInBounds_toArray, List.set_cons_zero, List.set_cons_succ]; refine hK _ ?_; clear hK K) | (refine seq_read (by rfl) (by rfl) ?_; intro K hK; go_big_quiet_op; first | go_big_quiet_on | (refine ⟨_, fun _ _ => rfl, ?_⟩; go_big_quiet_on))))
    refine seq_call (calls_ext (cis _)) rfl Tryd.func15 (by kernel_rfl) (by kernel_rfl) (by rfl) (by rfl) ?_; intro K hK; rintro e w' ⟨rfl, hE⟩; refine ⟨_, rfl, hE, ?_⟩; simp only [Act.put, List.setIfInBounds_toArray, List.set_cons_zero, List.set_cons_succ]; refine hK _ _ ?_; clear hK K
    (try replace hb := hb.ext hE); (try replace hm := hm.ext hE); (try replace h1 := h1.ext hE); (try replace h2 := h2.ext hE); (try replace h3 := h3.ext hE); (try replace h4 := h4.ext hE); (try replace h5 := h5.ext hE); (try replace h6 := h6.ext hE); (try replace h7 := h7.ext hE); (try replace HE := Lib.hid (HE.out.trans hE)); (try replace r0 := r0.ext hE); (try replace r1 := r1.ext hE); (try replace r2 := r2.ext hE); (try replace r3 := r3.ext hE); (try replace r4 := r4.ext hE); (try replace r5 := r5.ext hE); (try replace r6 := r6.ext hE)
    clear hE
    (repeat (first | (refine seq_skip (by rfl) ?_; intro K hK; simp only [Act.put, List.setIfInBounds_toArray, List.set_cons_zero, List.set_cons_succ]; refine hK _ ?_; clear hK K) | (refine seq_skipc (by rfl) ?_; intro K hK; simp only [Act.put, List.setIfInBounds_toArray, List.set_cons_zero, List.set_cons_succ]; refine hK _ ?_; clear hK K) | (refine seq_read (by rfl) (by rfl) ?_; intro K hK; go_big_quiet_op; first | go_big_quiet_on | (refine ⟨_, fun _ _ => rfl, ?_⟩; go_big_quiet_on))))
    refine seq_done ?_
    clear crr cri rme cis hok
    have hl16 := rt_len hrt
    have cf1 := fun w h k => C.find A L c n a w hrt n1 a1 hva h k
    have cf2 := fun w h => rfind14_c A L c hLm hrt (n : Int) (a : Int) (by omega) (by omega) hva (by omega) (by omega) w h
    unfold FoundT at cf2
    have cd1 := fun w h k => drop_any C A L c i y hrt w h k
    have cd2 := fun w h => rdrop_any A L c i y hrt w h
    have hDl := drpL_len L i y
    have csd := fun A2 c2 A3 c3 w h k => rsame14_c A2 A3 (drpL L i y) (drpL L i y) c2 c3 (by omega) (by omega) w h k
    rw [hDl, show decide (drpL L i y = drpL L i y) = true by simp] at csd
    have cu1 := fun (h : okT (n : Int) a L = true) w hr k => C.use A L c (seT (n : Int) a L) (wyT (n : Int) a L) w hrt (found h).il (found h).wl hr k
    have cu2 := fun (h : okT (n : Int) a L = true) w hr => ruse14_c A L c (by omega) (seT (n : Int) a L) (wyT (n : Int) a L) (found h).il (found h).wl (right_t (rt_s hrt (found h).il)) w hr
    have hUl : (useT L (seT (n : Int) a L) (wyT (n : Int) a L)).length = L.length := by rw [← useT_eq, List.length_set]
    have csu := fun A2 c2 A3 c3 w h k => rsame14_c A2 A3 (useT L (seT (n : Int) a L) (wyT (n : Int) a L)) (useT L (seT (n : Int) a L) (wyT (n : Int) a L)) c2 c3 (by omega) (by omega) w h k
    rw [hUl, show decide (useT L (seT (n : Int) a L) (wyT (n : Int) a L) = useT L (seT (n : Int) a L) (wyT (n : Int) a L)) = true by simp] at csu
    unfold TlbR at cu1
    unfold MadeT at cu2
    rw [hUl] at cu1 cu2
    have ca1 := fun w h k => C.all A L c w hrt h k
    have ca2 := fun w h => rall14_c A L c (by omega) w h
    unfold MadeE at ca1 ca2
    have cp1 := fun hv w h k => C.put A L c e v w hrt hm hv h k
    have cp2 := fun hv w h => rput_any A L c e v hrt hm hv w h
    have hPl := putT_len e v L
    have csp := fun A2 c2 A3 c3 w h k => rsame14_c A2 A3 (putT e v L) (putT e v L) c2 c3 (by omega) (by omega) w h k
    rw [hPl, show decide (putT e v L = putT e v L) = true by simp] at csp
    unfold TlbR at cp1 cp2
    rw [hPl] at cp1 cp2
    clear hPl hUl hDl hrt hva hm
    generalize putT e v L = P at *
    generalize useT L (seT (n : Int) a L) (wyT (n : Int) a L) = U at *
    generalize drpL L i y = D at *
    generalize drpG L i y = dg at *
    generalize allT L = E at *
    generalize enT (n : Int) a L = ex at *
    generalize okT (n : Int) a L = ox at *
    generalize seT (n : Int) a L = sx at *
    generalize wyT (n : Int) a L = wx at *
    have hne : ∀ w, (binOp .neq 29 (.agg (enC ex)) (.agg (enC ex))).run Tryd.prog w = .ok (.bool false) w := fun w => by rw [neq_en]; simp
    go_wp2_with ((refine wpList_load_blk (by rfl) 24 _ rfl rfl (by first | exact h1 | exact h2 | exact h3 | exact h4 | exact h5 | exact h6 | exact h7 | exact hb) Tryd.underlying24 rfl (by kernel_rfl) ?_)); refine (cf1 _ (hrow _ HE.out) (hT.ext HE.out)).mono ?_; rintro e w' ⟨rfl, hE⟩; (try replace hb := hb.ext hE); (try replace hm := hm.ext hE); (try replace h1 := h1.ext hE); (try replace h2 := h2.ext hE); (try replace h3 := h3.ext hE); (try replace h4 := h4.ext hE); (try replace h5 := h5.ext hE); (try replace h6 := h6.ext hE); (try replace h7 := h7.ext hE); (try replace HE := Lib.hid (HE.out.trans hE)); (try replace r0 := r0.ext hE); (try replace r1 := r1.ext hE); (try replace r2 := r2.ext hE); (try replace r3 := r3.ext hE); (try replace r4 := r4.ext hE); (try replace r5 := r5.ext hE); (try replace r6 := r6.ext hE); clear hE
    have hE := (Ext.refl w').alloc (.cells (enC ex) 29); (try replace hb := hb.ext hE); (try replace hm := hm.ext hE); (try replace h1 := h1.ext hE); (try replace h2 := h2.ext hE); (try replace h3 := h3.ext hE); (try replace h4 := h4.ext hE); (try replace h5 := h5.ext hE); (try replace h6 := h6.ext hE); (try replace h7 := h7.ext hE); (try replace HE := Lib.hid (HE.out.trans hE)); (try replace r0 := r0.ext hE); (try replace r1 := r1.ext hE); (try replace r2 := r2.ext hE); (try replace r3 := r3.ext hE); (try replace r4 := r4.ext hE); (try replace r5 := r5.ext hE); (try replace r6 := r6.ext hE); clear hE; have h3 := Blk.new w' 29 (enC ex); go_upto_region 9 with ((refine wpList_store_new rfl 29 _ _ rfl (enC _) _ _ rfl rfl (en_info _) (by simp [enC_size]) (enC_one _) ?_)); generalize w'.heap.size = g3 at *; generalize w'.alloc (.cells (enC ex) 29) = W3 at *
    go_wp2_with ((refine wpList_load_blk (by rfl) 24 _ rfl rfl (by first | exact h1 | exact h2 | exact h3 | exact h4 | exact h5 | exact h6 | exact h7 | exact hb) Tryd.underlying24 rfl (by kernel_rfl) ?_)); refine (cf2 _ (hrow _ HE.out)).mono ?_; rintro e w' ⟨rfl, hE⟩; (try replace hb := hb.ext hE); (try replace hm := hm.ext hE); (try replace h1 := h1.ext hE); (try replace h2 := h2.ext hE); (try replace h3 := h3.ext hE); (try replace h4 := h4.ext hE); (try replace h5 := h5.ext hE); (try replace h6 := h6.ext hE); (try replace h7 := h7.ext hE); (try replace HE := Lib.hid (HE.out.trans hE)); (try replace r0 := r0.ext hE); (try replace r1 := r1.ext hE); (try replace r2 := r2.ext hE); (try replace r3 := r3.ext hE); (try replace r4 := r4.ext hE); (try replace r5 := r5.ext hE); (try replace r6 := r6.ext hE); clear hE
    have hE := (Ext.refl w').alloc (.cells (enC ex) 29); (try replace hb := hb.ext hE); (try replace hm := hm.ext hE); (try replace h1 := h1.ext hE); (try replace h2 := h2.ext hE); (try replace h3 := h3.ext hE); (try replace h4 := h4.ext hE); (try replace h5 := h5.ext hE); (try replace h6 := h6.ext hE); (try replace h7 := h7.ext hE); (try replace HE := Lib.hid (HE.out.trans hE)); (try replace r0 := r0.ext hE); (try replace r1 := r1.ext hE); (try replace r2 := r2.ext hE); (try replace r3 := r3.ext hE); (try replace r4 := r4.ext hE); (try replace r5 := r5.ext hE); (try replace r6 := r6.ext hE); clear hE; have h4 := Blk.new w' 29 (enC ex); go_upto_region 10 with ((refine wpList_store_new rfl 29 _ _ rfl (enC _) _ _ rfl rfl (en_info _) (by simp [enC_size]) (enC_one _) ?_)); generalize w'.heap.size = g4 at *; generalize w'.alloc (.cells (enC ex) 29) = W4 at *
    go_wp2_with ((refine wpList_load_blk (by rfl) 24 _ rfl rfl (by first | exact h1 | exact h2 | exact h3 | exact h4 | exact h5 | exact h6 | exact h7 | exact hb) Tryd.underlying24 rfl (by kernel_rfl) ?_)); refine (cd1 _ (hrow _ HE.out) (hT.ext HE.out)).mono ?_; rintro e w' ⟨A5, c5, rfl, r5, hE⟩; (try replace hb := hb.ext hE); (try replace hm := hm.ext hE); (try replace h1 := h1.ext hE); (try replace h2 := h2.ext hE); (try replace h3 := h3.ext hE); (try replace h4 := h4.ext hE); (try replace h5 := h5.ext hE); (try replace h6 := h6.ext hE); (try replace h7 := h7.ext hE); (try replace HE := Lib.hid (HE.out.trans hE)); (try replace r0 := r0.ext hE); (try replace r1 := r1.ext hE); (try replace r2 := r2.ext hE); (try replace r3 := r3.ext hE); (try replace r4 := r4.ext hE); (try replace r5 := r5.ext hE); (try replace r6 := r6.ext hE); clear hE
    have hE := (Ext.refl w').alloc (.cells (#[.slice A5 L.length c5]) 24); (try replace hb := hb.ext hE); (try replace hm := hm.ext hE); (try replace h1 := h1.ext hE); (try replace h2 := h2.ext hE); (try replace h3 := h3.ext hE); (try replace h4 := h4.ext hE); (try replace h5 := h5.ext hE); (try replace h6 := h6.ext hE); (try replace h7 := h7.ext hE); (try replace HE := Lib.hid (HE.out.trans hE)); (try replace r0 := r0.ext hE); (try replace r1 := r1.ext hE); (try replace r2 := r2.ext hE); (try replace r3 := r3.ext hE); (try replace r4 := r4.ext hE); (try replace r5 := r5.ext hE); (try replace r6 := r6.ext hE); clear hE; have h5 := Blk.new w' 24 (#[.slice A5 L.length c5]); go_upto_region 11 with (fail); generalize w'.heap.size = g5 at *; generalize w'.alloc (.cells (#[.slice A5 L.length c5]) 24) = W5 at *
    go_wp2_with ((refine wpList_load_blk (by rfl) 24 _ rfl rfl (by first | exact h1 | exact h2 | exact h3 | exact h4 | exact h5 | exact h6 | exact h7 | exact hb) Tryd.underlying24 rfl (by kernel_rfl) ?_)); refine (cd2 _ (hrow _ HE.out)).mono ?_; rintro e w' ⟨A6, c6, rfl, r6, hE⟩; (try replace hb := hb.ext hE); (try replace hm := hm.ext hE); (try replace h1 := h1.ext hE); (try replace h2 := h2.ext hE); (try replace h3 := h3.ext hE); (try replace h4 := h4.ext hE); (try replace h5 := h5.ext hE); (try replace h6 := h6.ext hE); (try replace h7 := h7.ext hE); (try replace HE := Lib.hid (HE.out.trans hE)); (try replace r0 := r0.ext hE); (try replace r1 := r1.ext hE); (try replace r2 := r2.ext hE); (try replace r3 := r3.ext hE); (try replace r4 := r4.ext hE); (try replace r5 := r5.ext hE); (try replace r6 := r6.ext hE); clear hE
    have hE := (Ext.refl w').alloc (.cells (#[.slice A6 L.length c6]) 24); (try replace hb := hb.ext hE); (try replace hm := hm.ext hE); (try replace h1 := h1.ext hE); (try replace h2 := h2.ext hE); (try replace h3 := h3.ext hE); (try replace h4 := h4.ext hE); (try replace h5 := h5.ext hE); (try replace h6 := h6.ext hE); (try replace h7 := h7.ext hE); (try replace HE := Lib.hid (HE.out.trans hE)); (try replace r0 := r0.ext hE); (try replace r1 := r1.ext hE); (try replace r2 := r2.ext hE); (try replace r3 := r3.ext hE); (try replace r4 := r4.ext hE); (try replace r5 := r5.ext hE); (try replace r6 := r6.ext hE); clear hE; have h6 := Blk.new w' 24 (#[.slice A6 L.length c6]); go_upto_region 12 with (fail); generalize w'.heap.size = g6 at *; generalize w'.alloc (.cells (#[.slice A6 L.length c6]) 24) = W6 at *
    clear cf1 cf2 cd1 cd2
    go_cut [179] from 136 to 179 (fun z wx => z = .bool false ∧ Blk wx w.heap.size 24 #[.slice A L.length c] ∧ Blk wx (w.heap.size + 1) 29 (enC e) ∧ Ext w wx)
    case first =>
      clear cp1 cp2 csp ca1 ca2
      cases ox
      · clear cu1 cu2 csu
        go_wp2_with fail
        (try replace hb := Blk.drew hb); (try replace hm := Blk.drew hm); (try replace h1 := Blk.drew h1); (try replace h2 := Blk.drew h2); (try replace h3 := Blk.drew h3); (try replace h4 := Blk.drew h4); (try replace h5 := Blk.drew h5); (try replace h6 := Blk.drew h6); (try replace h7 := Blk.drew h7); replace HE := Lib.hid HE.out.drew
        replace r5 := r5.ext (Ext.refl _).drew
        replace r6 := r6.ext (Ext.refl _).drew
        refine wp_region_seq [(0, false), (1, false), (2, false), (3, false), (4, false), (5, false), (6, false), (7, false), (8, false), (9, false), (10, false), (11, false), (12, false), (13, false), (14, false), (15, false), (16, false), (17, false), (18, false), (19, false), (20, false), (21, true), (22, false), (23, false), (24, false), (25, false), (26, false), (27, false), (28, false), (29, false), (30, false), (31, false), (32, false), (33, false), (34, false), (36, false), (37, false), (38, false), (35, true), (39, true), (40, true), (41, false), (42, false), (43, false)] Ext (by kernel_rfl) (by kernel_rfl) Ext.refl (fun _ _ _ => Ext.trans) ?_; simp only [List.map, nth_z, nth_s]
        (try simp only [Act.put, List.setIfInBounds_toArray, List.set_cons_zero, List.set_cons_succ])
        (repeat (first | (refine seq_skip (by rfl) ?_; intro K hK; simp only [Act.put, List.setIfInBounds_toArray, List.set_cons_zero, List.set_cons_succ]; refine hK _ ?_; clear hK K) | (refine seq_skipc (by rfl) ?_; intro K hK; simp only [Act.put, List.setIfInBounds_toArray, List.set_cons_zero, List.set_cons_succ]; refine hK _ ?_; clear hK K) | (refine seq_read (by rfl) (by rfl) ?_; intro K hK; go_big_quiet_op; first | go_big_quiet_on | (refine ⟨_, fun _ _ => rfl, ?_⟩; go_big_quiet_on))))
        refine seq_load rfl rfl (fun x hx => Blk.ext (h3) hx) rfl Tryd.underlying29 (by kernel_rfl) (by rfl) ?_; intro K hK; simp only [Act.put, List.setIfInBounds_toArray, List.set_cons_zero, List.set_cons_succ]; refine hK _ ?_; clear hK K
        (repeat (first | (refine seq_skip (by rfl) ?_; intro K hK; simp only [Act.put, List.setIfInBounds_toArray, List.set_cons_zero, List.set_cons_succ]; refine hK _ ?_; clear hK K) | (refine seq_skipc (by rfl) ?_; intro K hK; simp only [Act.put, List.setIfInBounds_toArray, List.set_cons_zero, List.set_cons_succ]; refine hK _ ?_; clear hK K) | (refine seq_read (by rfl) (by rfl) ?_; intro K hK; go_big_quiet_op; first | go_big_quiet_on | (refine ⟨_, fun _ _ => rfl, ?_⟩; go_big_quiet_on))))
        refine seq_load rfl rfl (fun x hx => Blk.ext (h4) hx) rfl Tryd.underlying29 (by kernel_rfl) (by rfl) ?_; intro K hK; simp only [Act.put, List.setIfInBounds_toArray, List.set_cons_zero, List.set_cons_succ]; refine hK _ ?_; clear hK K
        refine seq_cmp rfl rfl rfl (en_guard) (hne) (by rfl) ?_; intro K hK; simp only [Act.put, List.setIfInBounds_toArray, List.set_cons_zero, List.set_cons_succ]; refine hK _ ?_; clear hK K
        (repeat (first | (refine seq_skip (by rfl) ?_; intro K hK; simp only [Act.put, List.setIfInBounds_toArray, List.set_cons_zero, List.set_cons_succ]; refine hK _ ?_; clear hK K) | (refine seq_skipc (by rfl) ?_; intro K hK; simp only [Act.put, List.setIfInBounds_toArray, List.set_cons_zero, List.set_cons_succ]; refine hK _ ?_; clear hK K) | (refine seq_read (by rfl) (by rfl) ?_; intro K hK; go_big_quiet_op; first | go_big_quiet_on | (refine ⟨_, fun _ _ => rfl, ?_⟩; go_big_quiet_on))))
        refine seq_load rfl rfl (fun x hx => Blk.ext (h5) hx) rfl Tryd.underlying24 (by kernel_rfl) (by rfl) ?_; intro K hK; simp only [Act.put, List.setIfInBounds_toArray, List.set_cons_zero, List.set_cons_succ]; refine hK _ ?_; clear hK K
        (repeat (first | (refine seq_skip (by rfl) ?_; intro K hK; simp only [Act.put, List.setIfInBounds_toArray, List.set_cons_zero, List.set_cons_succ]; refine hK _ ?_; clear hK K) | (refine seq_skipc (by rfl) ?_; intro K hK; simp only [Act.put, List.setIfInBounds_toArray, List.set_cons_zero, List.set_cons_succ]; refine hK _ ?_; clear hK K) | (refine seq_read (by rfl) (by rfl) ?_; intro K hK; go_big_quiet_op; first | go_big_quiet_on | (refine ⟨_, fun _ _ => rfl, ?_⟩; go_big_quiet_on))))
        refine seq_load rfl rfl (fun x hx => Blk.ext (h6) hx) rfl Tryd.underlying24 (by kernel_rfl) (by rfl) ?_; intro K hK; simp only [Act.put, List.setIfInBounds_toArray, List.set_cons_zero, List.set_cons_succ]; refine hK _ ?_; clear hK K
        (repeat (first | (refine seq_skip (by rfl) ?_; intro K hK; simp only [Act.put, List.setIfInBounds_toArray, List.set_cons_zero, List.set_cons_succ]; refine hK _ ?_; clear hK K) | (refine seq_skipc (by rfl) ?_; intro K hK; simp only [Act.put, List.setIfInBounds_toArray, List.set_cons_zero, List.set_cons_succ]; refine hK _ ?_; clear hK K) | (refine seq_read (by rfl) (by rfl) ?_; intro K hK; go_big_quiet_op; first | go_big_quiet_on | (refine ⟨_, fun _ _ => rfl, ?_⟩; go_big_quiet_on))))
        refine seq_call (csd _ _ _ _ _ r5 r6) rfl Tryd.func11 (by kernel_rfl) (by kernel_rfl) (by rfl) (by rfl) ?_; intro K hK; rintro e w' ⟨rfl, hE⟩; refine ⟨_, rfl, hE, ?_⟩; simp only [Act.put, List.setIfInBounds_toArray, List.set_cons_zero, List.set_cons_succ]; refine hK _ _ ?_; clear hK K
        (try replace hb := hb.ext hE); (try replace hm := hm.ext hE); (try replace h1 := h1.ext hE); (try replace h2 := h2.ext hE); (try replace h3 := h3.ext hE); (try replace h4 := h4.ext hE); (try replace h5 := h5.ext hE); (try replace h6 := h6.ext hE); (try replace h7 := h7.ext hE); (try replace HE := Lib.hid (HE.out.trans hE)); (try replace r0 := r0.ext hE); (try replace r1 := r1.ext hE); (try replace r2 := r2.ext hE); (try replace r3 := r3.ext hE); (try replace r4 := r4.ext hE); (try replace r5 := r5.ext hE); (try replace r6 := r6.ext hE)
        clear hE
        (repeat (first | (refine seq_skip (by rfl) ?_; intro K hK; simp only [Act.put, List.setIfInBounds_toArray, List.set_cons_zero, List.set_cons_succ]; refine hK _ ?_; clear hK K) | (refine seq_skipc (by rfl) ?_; intro K hK; simp only [Act.put, List.setIfInBounds_toArray, List.set_cons_zero, List.set_cons_succ]; refine hK _ ?_; clear hK K) | (refine seq_read (by rfl) (by rfl) ?_; intro K hK; go_big_quiet_op; first | go_big_quiet_on | (refine ⟨_, fun _ _ => rfl, ?_⟩; go_big_quiet_on))))
        refine seq_done ?_
        go_wp2_with fail
        go_meet
        case rel => exact ⟨rfl, h1, h2, HE.out⟩
      · replace cu1 := cu1 rfl
        replace cu2 := cu2 rfl
        go_wp2_with fail
        (try replace hb := Blk.drew hb); (try replace hm := Blk.drew hm); (try replace h1 := Blk.drew h1); (try replace h2 := Blk.drew h2); (try replace h3 := Blk.drew h3); (try replace h4 := Blk.drew h4); (try replace h5 := Blk.drew h5); (try replace h6 := Blk.drew h6); (try replace h7 := Blk.drew h7); replace HE := Lib.hid HE.out.drew
        replace r5 := r5.ext (Ext.refl _).drew
        replace r6 := r6.ext (Ext.refl _).drew
        refine wp_region_seq [(0, false), (1, false), (2, false), (3, false), (4, false), (5, false), (6, false), (7, false), (8, false), (9, false), (10, false), (11, false), (12, false), (13, false), (14, false), (15, false), (16, false), (17, false), (18, false), (19, false), (20, false), (21, true), (22, false), (23, false), (24, false), (25, false), (26, false), (27, false), (28, false), (29, false), (30, false), (31, false), (32, false), (33, false), (34, false), (36, false), (37, false), (38, false), (35, true), (39, true), (40, true), (41, false), (42, false), (43, false)] Ext (by kernel_rfl) (by kernel_rfl) Ext.refl (fun _ _ _ => Ext.trans) ?_; simp only [List.map, nth_z, nth_s]
        (try simp only [Act.put, List.setIfInBounds_toArray, List.set_cons_zero, List.set_cons_succ])
        (repeat (first | (refine seq_skip (by rfl) ?_; intro K hK; simp only [Act.put, List.setIfInBounds_toArray, List.set_cons_zero, List.set_cons_succ]; refine hK _ ?_; clear hK K) | (refine seq_skipc (by rfl) ?_; intro K hK; simp only [Act.put, List.setIfInBounds_toArray, List.set_cons_zero, List.set_cons_succ]; refine hK _ ?_; clear hK K) | (refine seq_read (by rfl) (by rfl) ?_; intro K hK; go_big_quiet_op; first | go_big_quiet_on | (refine ⟨_, fun _ _ => rfl, ?_⟩; go_big_quiet_on))))
        refine seq_load rfl rfl (fun x hx => Blk.ext (h3) hx) rfl Tryd.underlying29 (by kernel_rfl) (by rfl) ?_; intro K hK; simp only [Act.put, List.setIfInBounds_toArray, List.set_cons_zero, List.set_cons_succ]; refine hK _ ?_; clear hK K
        (repeat (first | (refine seq_skip (by rfl) ?_; intro K hK; simp only [Act.put, List.setIfInBounds_toArray, List.set_cons_zero, List.set_cons_succ]; refine hK _ ?_; clear hK K) | (refine seq_skipc (by rfl) ?_; intro K hK; simp only [Act.put, List.setIfInBounds_toArray, List.set_cons_zero, List.set_cons_succ]; refine hK _ ?_; clear hK K) | (refine seq_read (by rfl) (by rfl) ?_; intro K hK; go_big_quiet_op; first | go_big_quiet_on | (refine ⟨_, fun _ _ => rfl, ?_⟩; go_big_quiet_on))))
        refine seq_load rfl rfl (fun x hx => Blk.ext (h4) hx) rfl Tryd.underlying29 (by kernel_rfl) (by rfl) ?_; intro K hK; simp only [Act.put, List.setIfInBounds_toArray, List.set_cons_zero, List.set_cons_succ]; refine hK _ ?_; clear hK K
        refine seq_cmp rfl rfl rfl (en_guard) (hne) (by rfl) ?_; intro K hK; simp only [Act.put, List.setIfInBounds_toArray, List.set_cons_zero, List.set_cons_succ]; refine hK _ ?_; clear hK K
        (repeat (first | (refine seq_skip (by rfl) ?_; intro K hK; simp only [Act.put, List.setIfInBounds_toArray, List.set_cons_zero, List.set_cons_succ]; refine hK _ ?_; clear hK K) | (refine seq_skipc (by rfl) ?_; intro K hK; simp only [Act.put, List.setIfInBounds_toArray, List.set_cons_zero, List.set_cons_succ]; refine hK _ ?_; clear hK K) | (refine seq_read (by rfl) (by rfl) ?_; intro K hK; go_big_quiet_op; first | go_big_quiet_on | (refine ⟨_, fun _ _ => rfl, ?_⟩; go_big_quiet_on))))
        refine seq_load rfl rfl (fun x hx => Blk.ext (h5) hx) rfl Tryd.underlying24 (by kernel_rfl) (by rfl) ?_; intro K hK; simp only [Act.put, List.setIfInBounds_toArray, List.set_cons_zero, List.set_cons_succ]; refine hK _ ?_; clear hK K
        (repeat (first | (refine seq_skip (by rfl) ?_; intro K hK; simp only [Act.put, List.setIfInBounds_toArray, List.set_cons_zero, List.set_cons_succ]; refine hK _ ?_; clear hK K) | (refine seq_skipc (by rfl) ?_; intro K hK; simp only [Act.put, List.setIfInBounds_toArray, List.set_cons_zero, List.set_cons_succ]; refine hK _ ?_; clear hK K) | (refine seq_read (by rfl) (by rfl) ?_; intro K hK; go_big_quiet_op; first | go_big_quiet_on | (refine ⟨_, fun _ _ => rfl, ?_⟩; go_big_quiet_on))))
        refine seq_load rfl rfl (fun x hx => Blk.ext (h6) hx) rfl Tryd.underlying24 (by kernel_rfl) (by rfl) ?_; intro K hK; simp only [Act.put, List.setIfInBounds_toArray, List.set_cons_zero, List.set_cons_succ]; refine hK _ ?_; clear hK K
        (repeat (first | (refine seq_skip (by rfl) ?_; intro K hK; simp only [Act.put, List.setIfInBounds_toArray, List.set_cons_zero, List.set_cons_succ]; refine hK _ ?_; clear hK K) | (refine seq_skipc (by rfl) ?_; intro K hK; simp only [Act.put, List.setIfInBounds_toArray, List.set_cons_zero, List.set_cons_succ]; refine hK _ ?_; clear hK K) | (refine seq_read (by rfl) (by rfl) ?_; intro K hK; go_big_quiet_op; first | go_big_quiet_on | (refine ⟨_, fun _ _ => rfl, ?_⟩; go_big_quiet_on))))
        refine seq_call (csd _ _ _ _ _ r5 r6) rfl Tryd.func11 (by kernel_rfl) (by kernel_rfl) (by rfl) (by rfl) ?_; intro K hK; rintro e w' ⟨rfl, hE⟩; refine ⟨_, rfl, hE, ?_⟩; simp only [Act.put, List.setIfInBounds_toArray, List.set_cons_zero, List.set_cons_succ]; refine hK _ _ ?_; clear hK K
        (try replace hb := hb.ext hE); (try replace hm := hm.ext hE); (try replace h1 := h1.ext hE); (try replace h2 := h2.ext hE); (try replace h3 := h3.ext hE); (try replace h4 := h4.ext hE); (try replace h5 := h5.ext hE); (try replace h6 := h6.ext hE); (try replace h7 := h7.ext hE); (try replace HE := Lib.hid (HE.out.trans hE)); (try replace r0 := r0.ext hE); (try replace r1 := r1.ext hE); (try replace r2 := r2.ext hE); (try replace r3 := r3.ext hE); (try replace r4 := r4.ext hE); (try replace r5 := r5.ext hE); (try replace r6 := r6.ext hE)
        clear hE
        (repeat (first | (refine seq_skip (by rfl) ?_; intro K hK; simp only [Act.put, List.setIfInBounds_toArray, List.set_cons_zero, List.set_cons_succ]; refine hK _ ?_; clear hK K) | (refine seq_skipc (by rfl) ?_; intro K hK; simp only [Act.put, List.setIfInBounds_toArray, List.set_cons_zero, List.set_cons_succ]; refine hK _ ?_; clear hK K) | (refine seq_read (by rfl) (by rfl) ?_; intro K hK; go_big_quiet_op; first | go_big_quiet_on | (refine ⟨_, fun _ _ => rfl, ?_⟩; go_big_quiet_on))))
        refine seq_load rfl rfl (fun x hx => Blk.ext (h1) hx) rfl Tryd.underlying24 (by kernel_rfl) (by rfl) ?_; intro K hK; simp only [Act.put, List.setIfInBounds_toArray, List.set_cons_zero, List.set_cons_succ]; refine hK _ ?_; clear hK K
        (repeat (first | (refine seq_skip (by rfl) ?_; intro K hK; simp only [Act.put, List.setIfInBounds_toArray, List.set_cons_zero, List.set_cons_succ]; refine hK _ ?_; clear hK K) | (refine seq_skipc (by rfl) ?_; intro K hK; simp only [Act.put, List.setIfInBounds_toArray, List.set_cons_zero, List.set_cons_succ]; refine hK _ ?_; clear hK K) | (refine seq_read (by rfl) (by rfl) ?_; intro K hK; go_big_quiet_op; first | go_big_quiet_on | (refine ⟨_, fun _ _ => rfl, ?_⟩; go_big_quiet_on))))
        refine seq_load rfl rfl (fun x hx => Blk.ext (h1) hx) rfl Tryd.underlying24 (by kernel_rfl) (by rfl) ?_; intro K hK; simp only [Act.put, List.setIfInBounds_toArray, List.set_cons_zero, List.set_cons_succ]; refine hK _ ?_; clear hK K
        (repeat (first | (refine seq_skip (by rfl) ?_; intro K hK; simp only [Act.put, List.setIfInBounds_toArray, List.set_cons_zero, List.set_cons_succ]; refine hK _ ?_; clear hK K) | (refine seq_skipc (by rfl) ?_; intro K hK; simp only [Act.put, List.setIfInBounds_toArray, List.set_cons_zero, List.set_cons_succ]; refine hK _ ?_; clear hK K) | (refine seq_read (by rfl) (by rfl) ?_; intro K hK; go_big_quiet_op; first | go_big_quiet_on | (refine ⟨_, fun _ _ => rfl, ?_⟩; go_big_quiet_on))))
        refine seq_call (cu1 _ (hrow _ HE.out) (hT.ext HE.out)) rfl Tryd.func20 (by kernel_rfl) (by kernel_rfl) (by rfl) (by rfl) ?_; intro K hK; rintro e w' ⟨A3, c3, rfl, r3, hE⟩; refine ⟨_, rfl, hE, ?_⟩; simp only [Act.put, List.setIfInBounds_toArray, List.set_cons_zero, List.set_cons_succ]; refine hK _ _ ?_; clear hK K
        (try replace hb := hb.ext hE); (try replace hm := hm.ext hE); (try replace h1 := h1.ext hE); (try replace h2 := h2.ext hE); (try replace h3 := h3.ext hE); (try replace h4 := h4.ext hE); (try replace h5 := h5.ext hE); (try replace h6 := h6.ext hE); (try replace h7 := h7.ext hE); (try replace HE := Lib.hid (HE.out.trans hE)); (try replace r0 := r0.ext hE); (try replace r1 := r1.ext hE); (try replace r2 := r2.ext hE); (try replace r3 := r3.ext hE); (try replace r4 := r4.ext hE); (try replace r5 := r5.ext hE); (try replace r6 := r6.ext hE)
        clear hE
        refine seq_call (cu2 _ (hrow _ HE.out)) rfl Tryd.func21 (by kernel_rfl) (by kernel_rfl) (by rfl) (by rfl) ?_; intro K hK; rintro e w' ⟨A4, c4, rfl, r4, -, hE⟩; refine ⟨_, rfl, hE, ?_⟩; simp only [Act.put, List.setIfInBounds_toArray, List.set_cons_zero, List.set_cons_succ]; refine hK _ _ ?_; clear hK K
        (try replace hb := hb.ext hE); (try replace hm := hm.ext hE); (try replace h1 := h1.ext hE); (try replace h2 := h2.ext hE); (try replace h3 := h3.ext hE); (try replace h4 := h4.ext hE); (try replace h5 := h5.ext hE); (try replace h6 := h6.ext hE); (try replace h7 := h7.ext hE); (try replace HE := Lib.hid (HE.out.trans hE)); (try replace r0 := r0.ext hE); (try replace r1 := r1.ext hE); (try replace r2 := r2.ext hE); (try replace r3 := r3.ext hE); (try replace r4 := r4.ext hE); (try replace r5 := r5.ext hE); (try replace r6 := r6.ext hE)
        clear hE
        refine seq_call (csu _ _ _ _ _ r3 r4) rfl Tryd.func11 (by kernel_rfl) (by kernel_rfl) (by rfl) (by rfl) ?_; intro K hK; rintro e w' ⟨rfl, hE⟩; refine ⟨_, rfl, hE, ?_⟩; simp only [Act.put, List.setIfInBounds_toArray, List.set_cons_zero, List.set_cons_succ]; refine hK _ _ ?_; clear hK K
        (try replace hb := hb.ext hE); (try replace hm := hm.ext hE); (try replace h1 := h1.ext hE); (try replace h2 := h2.ext hE); (try replace h3 := h3.ext hE); (try replace h4 := h4.ext hE); (try replace h5 := h5.ext hE); (try replace h6 := h6.ext hE); (try replace h7 := h7.ext hE); (try replace HE := Lib.hid (HE.out.trans hE)); (try replace r0 := r0.ext hE); (try replace r1 := r1.ext hE); (try replace r2 := r2.ext hE); (try replace r3 := r3.ext hE); (try replace r4 := r4.ext hE); (try replace r5 := r5.ext hE); (try replace r6 := r6.ext hE)
        clear hE
        (repeat (first | (refine seq_skip (by rfl) ?_; intro K hK; simp only [Act.put, List.setIfInBounds_toArray, List.set_cons_zero, List.set_cons_succ]; refine hK _ ?_; clear hK K) | (refine seq_skipc (by rfl) ?_; intro K hK; simp only [Act.put, List.setIfInBounds_toArray, List.set_cons_zero, List.set_cons_succ]; refine hK _ ?_; clear hK K) | (refine seq_read (by rfl) (by rfl) ?_; intro K hK; go_big_quiet_op; first | go_big_quiet_on | (refine ⟨_, fun _ _ => rfl, ?_⟩; go_big_quiet_on))))
        refine seq_done ?_
        go_wp2_with fail
        go_meet
        case rel => exact ⟨rfl, h1, h2, HE.out⟩
    case rest =>
      clear h1 h2 HE h3 h4 h5 h6 r5 r6 csd csu cu1 cu2 hne
      obtain ⟨rfl, h1, h2, hE⟩ := hcut
      have HE := Lib.hid hE
      clear hE
      go_wp2_with ((refine wpList_load_blk (by rfl) 24 _ rfl rfl (by first | exact h1 | exact h2 | exact h3 | exact h4 | exact h5 | exact h6 | exact h7 | exact hb) Tryd.underlying24 rfl (by kernel_rfl) ?_)); refine (ca1 _ (hrow _ HE.out) (hT.ext HE.out)).mono ?_; rintro e w' ⟨A3, c3, rfl, r3, -, hE⟩; (try replace hb := hb.ext hE); (try replace hm := hm.ext hE); (try replace h1 := h1.ext hE); (try replace h2 := h2.ext hE); (try replace h3 := h3.ext hE); (try replace h4 := h4.ext hE); (try replace h5 := h5.ext hE); (try replace h6 := h6.ext hE); (try replace h7 := h7.ext hE); (try replace HE := Lib.hid (HE.out.trans hE)); (try replace r0 := r0.ext hE); (try replace r1 := r1.ext hE); (try replace r2 := r2.ext hE); (try replace r3 := r3.ext hE); (try replace r4 := r4.ext hE); (try replace r5 := r5.ext hE); (try replace r6 := r6.ext hE); clear hE
      go_wp2_with ((refine wpList_load_blk (by rfl) 24 _ rfl rfl (by first | exact h1 | exact h2 | exact h3 | exact h4 | exact h5 | exact h6 | exact h7 | exact hb) Tryd.underlying24 rfl (by kernel_rfl) ?_)); refine (ca2 _ (hrow _ HE.out)).mono ?_; rintro e w' ⟨A4, c4, rfl, r4, -, hE⟩; (try replace hb := hb.ext hE); (try replace hm := hm.ext hE); (try replace h1 := h1.ext hE); (try replace h2 := h2.ext hE); (try replace h3 := h3.ext hE); (try replace h4 := h4.ext hE); (try replace h5 := h5.ext hE); (try replace h6 := h6.ext hE); (try replace h7 := h7.ext hE); (try replace HE := Lib.hid (HE.out.trans hE)); (try replace r0 := r0.ext hE); (try replace r1 := r1.ext hE); (try replace r2 := r2.ext hE); (try replace r3 := r3.ext hE); (try replace r4 := r4.ext hE); (try replace r5 := r5.ext hE); (try replace r6 := r6.ext hE); clear hE
      have hEm : E.length ≤ 9223372036854775807 := Nat.le_trans r3.2.2.1 r3.2.2.2
      have hnn : ((E.length : Int) != (E.length : Int)) = false := by simp
      have hrx : ∀ W : World, Ext w' W → RowV KE W A3 E c3 := fun W h => r3.ext h
      have hry : ∀ W : World, Ext w' W → RowV KE W A4 E c4 := fun W h => r4.ext h
      have b1 := h1
      have b2 := h2
      have HE0 := HE
      clear ca1 ca2 r3 r4 h1 h2 HE
      go_wp2
      clear hnn
      go_loopw [33] (fun i wr => ∃ k : Nat, k ≤ E.length ∧ i = .int .i64 k ∧ Ext w' wr) (fun i _ => (E.length - intOf i).toNat)
      case atStart => exact ⟨0, by omega, rfl, Ext.refl _⟩
      case round =>
        obtain ⟨k, hk, rfl, hE⟩ := hrel
        have HB := Lib.hid hE
        clear hE
        by_cases hlt : k < E.length
        · have hkz : (k : Int) < (E.length : Int) := by omega
          obtain ⟨b, off, rfl, hb, hr4⟩ := (hrx _ HB.out).some (by omega)
          obtain ⟨b2, off2, rfl, hb2, hr5⟩ := (hry _ HB.out).some (by omega)
          have e1 : wr.rangeAt b (off + k * 11) (enC (E.getD k e0)).toList := hr4 k hlt
          have e2 : wr.rangeAt b2 (off2 + k * 11) (enC (E.getD k e0)).toList := hr5 k hlt
          clear hrx hry hr4 hr5 cp1 cp2 csp hrow
          generalize E.getD k e0 = ek at *
          have hnq : ∀ w, (binOp .neq 29 (.agg (enC ek)) (.agg (enC ek))).run Tryd.prog w = .ok (.bool false) w := fun w => by rw [neq_en]; simp
          go_wp2_with fail
          replace HB := Lib.hid HB.out.drew
          refine wp_region_seq [(0, false), (1, false), (2, false), (3, false), (4, false), (5, false), (6, false), (7, false), (8, false)] Ext (by kernel_rfl) (by kernel_rfl) Ext.refl (fun _ _ _ => Ext.trans) ?_; simp only [List.map, nth_z, nth_s]
          (try simp only [Act.put, List.setIfInBounds_toArray, List.set_cons_zero, List.set_cons_succ])
          (repeat (first | (refine seq_skip (by rfl) ?_; intro K hK; simp only [Act.put, List.setIfInBounds_toArray, List.set_cons_zero, List.set_cons_succ]; refine hK _ ?_; clear hK K) | (refine seq_skipc (by rfl) ?_; intro K hK; simp only [Act.put, List.setIfInBounds_toArray, List.set_cons_zero, List.set_cons_succ]; refine hK _ ?_; clear hK K) | (refine seq_read (by rfl) (by rfl) ?_; intro K hK; go_big_quiet_op; first | go_big_quiet_on | (refine ⟨_, fun _ _ => rfl, ?_⟩; go_big_quiet_on))))
          refine seq_load_rng rfl rfl ((fun x hx => rgx_ext hx e1)) rfl Tryd.underlying29 (en_info _) (by rfl) ?_; intro K hK; simp only [Act.put, List.setIfInBounds_toArray, List.set_cons_zero, List.set_cons_succ]; refine hK _ ?_; clear hK K
          (repeat (first | (refine seq_skip (by rfl) ?_; intro K hK; simp only [Act.put, List.setIfInBounds_toArray, List.set_cons_zero, List.set_cons_succ]; refine hK _ ?_; clear hK K) | (refine seq_skipc (by rfl) ?_; intro K hK; simp only [Act.put, List.setIfInBounds_toArray, List.set_cons_zero, List.set_cons_succ]; refine hK _ ?_; clear hK K) | (refine seq_read (by rfl) (by rfl) ?_; intro K hK; go_big_quiet_op; first | go_big_quiet_on | (refine ⟨_, fun _ _ => rfl, ?_⟩; go_big_quiet_on))))
          refine seq_load_rng rfl rfl ((fun x hx => rgx_ext hx e2)) rfl Tryd.underlying29 (en_info _) (by rfl) ?_; intro K hK; simp only [Act.put, List.setIfInBounds_toArray, List.set_cons_zero, List.set_cons_succ]; refine hK _ ?_; clear hK K
          refine seq_cmp rfl rfl rfl (en_guard) (hnq) (by rfl) ?_; intro K hK; simp only [Act.put, List.setIfInBounds_toArray, List.set_cons_zero, List.set_cons_succ]; refine hK _ ?_; clear hK K
          refine seq_done ?_
          go_wp2
          go_roundw
          case rel => exact ⟨k + 1, by omega, by go_num, HB.out⟩
          case measure => simp [intOf]; omega
        · obtain rfl : k = E.length := by omega
          clear hrx hry
          have h1 := b1.ext HB.out
          have h2 := b2.ext HB.out
          have HE := Lib.hid (HE0.out.trans HB.out)
          have x0 := h2.en_v
          cases hv : e.v
          · rw [hv] at x0
            clear cp1 cp2 csp hv
            go_wp2_with fail
            replace x0 := ext_cell (Ext.refl _).drew x0
            (try replace hb := Blk.drew hb); (try replace hm := Blk.drew hm); (try replace h1 := Blk.drew h1); (try replace h2 := Blk.drew h2); (try replace h3 := Blk.drew h3); (try replace h4 := Blk.drew h4); (try replace h5 := Blk.drew h5); (try replace h6 := Blk.drew h6); (try replace h7 := Blk.drew h7); replace HE := Lib.hid HE.out.drew
            refine wp_region_seq [(0, false), (1, false), (2, false), (3, false), (4, false), (5, false), (6, false), (8, false), (9, false), (10, false), (7, true), (11, true), (12, true), (13, false), (14, false)] Ext (by kernel_rfl) (by kernel_rfl) Ext.refl (fun _ _ _ => Ext.trans) ?_; simp only [List.map, nth_z, nth_s]
            (try simp only [Act.put, List.setIfInBounds_toArray, List.set_cons_zero, List.set_cons_succ])
            (repeat (first | (refine seq_skip (by rfl) ?_; intro K hK; simp only [Act.put, List.setIfInBounds_toArray, List.set_cons_zero, List.set_cons_succ]; refine hK _ ?_; clear hK K) | (refine seq_skipc (by rfl) ?_; intro K hK; simp only [Act.put, List.setIfInBounds_toArray, List.set_cons_zero, List.set_cons_succ]; refine hK _ ?_; clear hK K) | (refine seq_read (by rfl) (by rfl) ?_; intro K hK; go_big_quiet_op; first | go_big_quiet_on | (refine ⟨_, fun _ _ => rfl, ?_⟩; go_big_quiet_on))))
            refine seq_value ((.bool false)) (by rfl) (fun x hx => by have hq := ext_cell hx (x0); simp [go_sem, execOp, Act.eval, hq]) ?_; intro K hK; simp only [Act.put, List.setIfInBounds_toArray, List.set_cons_zero, List.set_cons_succ]; refine hK _ ?_; clear hK K
            (repeat (first | (refine seq_skip (by rfl) ?_; intro K hK; simp only [Act.put, List.setIfInBounds_toArray, List.set_cons_zero, List.set_cons_succ]; refine hK _ ?_; clear hK K) | (refine seq_skipc (by rfl) ?_; intro K hK; simp only [Act.put, List.setIfInBounds_toArray, List.set_cons_zero, List.set_cons_succ]; refine hK _ ?_; clear hK K) | (refine seq_read (by rfl) (by rfl) ?_; intro K hK; go_big_quiet_op; first | go_big_quiet_on | (refine ⟨_, fun _ _ => rfl, ?_⟩; go_big_quiet_on))))
            refine seq_done ?_
            go_wp2
            go_ret
            exact ⟨rfl, HE.out⟩
          · rw [hv] at x0
            replace cp1 := cp1 hv
            replace cp2 := cp2 hv
            clear hv
            go_wp2_with fail
            replace x0 := ext_cell (Ext.refl _).drew x0
            (try replace hb := Blk.drew hb); (try replace hm := Blk.drew hm); (try replace h1 := Blk.drew h1); (try replace h2 := Blk.drew h2); (try replace h3 := Blk.drew h3); (try replace h4 := Blk.drew h4); (try replace h5 := Blk.drew h5); (try replace h6 := Blk.drew h6); (try replace h7 := Blk.drew h7); replace HE := Lib.hid HE.out.drew
            refine wp_region_seq [(0, false), (1, false), (2, false), (3, false), (4, false), (5, false), (6, false), (8, false), (9, false), (10, false), (7, true), (11, true), (12, true), (13, false), (14, false)] Ext (by kernel_rfl) (by kernel_rfl) Ext.refl (fun _ _ _ => Ext.trans) ?_; simp only [List.map, nth_z, nth_s]
            (try simp only [Act.put, List.setIfInBounds_toArray, List.set_cons_zero, List.set_cons_succ])
            (repeat (first | (refine seq_skip (by rfl) ?_; intro K hK; simp only [Act.put, List.setIfInBounds_toArray, List.set_cons_zero, List.set_cons_succ]; refine hK _ ?_; clear hK K) | (refine seq_skipc (by rfl) ?_; intro K hK; simp only [Act.put, List.setIfInBounds_toArray, List.set_cons_zero, List.set_cons_succ]; refine hK _ ?_; clear hK K) | (refine seq_read (by rfl) (by rfl) ?_; intro K hK; go_big_quiet_op; first | go_big_quiet_on | (refine ⟨_, fun _ _ => rfl, ?_⟩; go_big_quiet_on))))
            refine seq_value ((.bool true)) (by rfl) (fun x hx => by have hq := ext_cell hx (x0); simp [go_sem, execOp, Act.eval, hq]) ?_; intro K hK; simp only [Act.put, List.setIfInBounds_toArray, List.set_cons_zero, List.set_cons_succ]; refine hK _ ?_; clear hK K
            (repeat (first | (refine seq_skip (by rfl) ?_; intro K hK; simp only [Act.put, List.setIfInBounds_toArray, List.set_cons_zero, List.set_cons_succ]; refine hK _ ?_; clear hK K) | (refine seq_skipc (by rfl) ?_; intro K hK; simp only [Act.put, List.setIfInBounds_toArray, List.set_cons_zero, List.set_cons_succ]; refine hK _ ?_; clear hK K) | (refine seq_read (by rfl) (by rfl) ?_; intro K hK; go_big_quiet_op; first | go_big_quiet_on | (refine ⟨_, fun _ _ => rfl, ?_⟩; go_big_quiet_on))))
            refine seq_load rfl rfl (fun x hx => Blk.ext (h1) hx) rfl Tryd.underlying24 (by kernel_rfl) (by rfl) ?_; intro K hK; simp only [Act.put, List.setIfInBounds_toArray, List.set_cons_zero, List.set_cons_succ]; refine hK _ ?_; clear hK K
            (repeat (first | (refine seq_skip (by rfl) ?_; intro K hK; simp only [Act.put, List.setIfInBounds_toArray, List.set_cons_zero, List.set_cons_succ]; refine hK _ ?_; clear hK K) | (refine seq_skipc (by rfl) ?_; intro K hK; simp only [Act.put, List.setIfInBounds_toArray, List.set_cons_zero, List.set_cons_succ]; refine hK _ ?_; clear hK K) | (refine seq_read (by rfl) (by rfl) ?_; intro K hK; go_big_quiet_op; first | go_big_quiet_on | (refine ⟨_, fun _ _ => rfl, ?_⟩; go_big_quiet_on))))
            refine seq_load rfl rfl (fun x hx => Blk.ext (h2) hx) rfl Tryd.underlying29 (by kernel_rfl) (by rfl) ?_; intro K hK; simp only [Act.put, List.setIfInBounds_toArray, List.set_cons_zero, List.set_cons_succ]; refine hK _ ?_; clear hK K
            (repeat (first | (refine seq_skip (by rfl) ?_; intro K hK; simp only [Act.put, List.setIfInBounds_toArray, List.set_cons_zero, List.set_cons_succ]; refine hK _ ?_; clear hK K) | (refine seq_skipc (by rfl) ?_; intro K hK; simp only [Act.put, List.setIfInBounds_toArray, List.set_cons_zero, List.set_cons_succ]; refine hK _ ?_; clear hK K) | (refine seq_read (by rfl) (by rfl) ?_; intro K hK; go_big_quiet_op; first | go_big_quiet_on | (refine ⟨_, fun _ _ => rfl, ?_⟩; go_big_quiet_on))))
            refine seq_load rfl rfl (fun x hx => Blk.ext (h1) hx) rfl Tryd.underlying24 (by kernel_rfl) (by rfl) ?_; intro K hK; simp only [Act.put, List.setIfInBounds_toArray, List.set_cons_zero, List.set_cons_succ]; refine hK _ ?_; clear hK K
            (repeat (first | (refine seq_skip (by rfl) ?_; intro K hK; simp only [Act.put, List.setIfInBounds_toArray, List.set_cons_zero, List.set_cons_succ]; refine hK _ ?_; clear hK K) | (refine seq_skipc (by rfl) ?_; intro K hK; simp only [Act.put, List.setIfInBounds_toArray, List.set_cons_zero, List.set_cons_succ]; refine hK _ ?_; clear hK K) | (refine seq_read (by rfl) (by rfl) ?_; intro K hK; go_big_quiet_op; first | go_big_quiet_on | (refine ⟨_, fun _ _ => rfl, ?_⟩; go_big_quiet_on))))
            refine seq_load rfl rfl (fun x hx => Blk.ext (h2) hx) rfl Tryd.underlying29 (by kernel_rfl) (by rfl) ?_; intro K hK; simp only [Act.put, List.setIfInBounds_toArray, List.set_cons_zero, List.set_cons_succ]; refine hK _ ?_; clear hK K
            (repeat (first | (refine seq_skip (by rfl) ?_; intro K hK; simp only [Act.put, List.setIfInBounds_toArray, List.set_cons_zero, List.set_cons_succ]; refine hK _ ?_; clear hK K) | (refine seq_skipc (by rfl) ?_; intro K hK; simp only [Act.put, List.setIfInBounds_toArray, List.set_cons_zero, List.set_cons_succ]; refine hK _ ?_; clear hK K) | (refine seq_read (by rfl) (by rfl) ?_; intro K hK; go_big_quiet_op; first | go_big_quiet_on | (refine ⟨_, fun _ _ => rfl, ?_⟩; go_big_quiet_on))))
            refine seq_call (cp1 _ (hrow _ HE.out) (hT.ext HE.out)) rfl Tryd.func24 (by kernel_rfl) (by kernel_rfl) (by rfl) (by rfl) ?_; intro K hK; rintro e w' ⟨A5, c5, rfl, r5, hE⟩; refine ⟨_, rfl, hE, ?_⟩; simp only [Act.put, List.setIfInBounds_toArray, List.set_cons_zero, List.set_cons_succ]; refine hK _ _ ?_; clear hK K
            (try replace hb := hb.ext hE); (try replace hm := hm.ext hE); (try replace h1 := h1.ext hE); (try replace h2 := h2.ext hE); (try replace h3 := h3.ext hE); (try replace h4 := h4.ext hE); (try replace h5 := h5.ext hE); (try replace h6 := h6.ext hE); (try replace h7 := h7.ext hE); (try replace HE := Lib.hid (HE.out.trans hE)); (try replace r0 := r0.ext hE); (try replace r1 := r1.ext hE); (try replace r2 := r2.ext hE); (try replace r3 := r3.ext hE); (try replace r4 := r4.ext hE); (try replace r5 := r5.ext hE); (try replace r6 := r6.ext hE)
            clear hE
            refine seq_call (cp2 _ (hrow _ HE.out)) rfl Tryd.func25 (by kernel_rfl) (by kernel_rfl) (by rfl) (by rfl) ?_; intro K hK; rintro e w' ⟨A6, c6, rfl, r6, hE⟩; refine ⟨_, rfl, hE, ?_⟩; simp only [Act.put, List.setIfInBounds_toArray, List.set_cons_zero, List.set_cons_succ]; refine hK _ _ ?_; clear hK K
            (try replace hb := hb.ext hE); (try replace hm := hm.ext hE); (try replace h1 := h1.ext hE); (try replace h2 := h2.ext hE); (try replace h3 := h3.ext hE); (try replace h4 := h4.ext hE); (try replace h5 := h5.ext hE); (try replace h6 := h6.ext hE); (try replace h7 := h7.ext hE); (try replace HE := Lib.hid (HE.out.trans hE)); (try replace r0 := r0.ext hE); (try replace r1 := r1.ext hE); (try replace r2 := r2.ext hE); (try replace r3 := r3.ext hE); (try replace r4 := r4.ext hE); (try replace r5 := r5.ext hE); (try replace r6 := r6.ext hE)
            clear hE
            refine seq_call (csp _ _ _ _ _ r5 r6) rfl Tryd.func11 (by kernel_rfl) (by kernel_rfl) (by rfl) (by rfl) ?_; intro K hK; rintro e w' ⟨rfl, hE⟩; refine ⟨_, rfl, hE, ?_⟩; simp only [Act.put, List.setIfInBounds_toArray, List.set_cons_zero, List.set_cons_succ]; refine hK _ _ ?_; clear hK K
            (try replace hb := hb.ext hE); (try replace hm := hm.ext hE); (try replace h1 := h1.ext hE); (try replace h2 := h2.ext hE); (try replace h3 := h3.ext hE); (try replace h4 := h4.ext hE); (try replace h5 := h5.ext hE); (try replace h6 := h6.ext hE); (try replace h7 := h7.ext hE); (try replace HE := Lib.hid (HE.out.trans hE)); (try replace r0 := r0.ext hE); (try replace r1 := r1.ext hE); (try replace r2 := r2.ext hE); (try replace r3 := r3.ext hE); (try replace r4 := r4.ext hE); (try replace r5 := r5.ext hE); (try replace r6 := r6.ext hE)
            clear hE
            (repeat (first | (refine seq_skip (by rfl) ?_; intro K hK; simp only [Act.put, List.setIfInBounds_toArray, List.set_cons_zero, List.set_cons_succ]; refine hK _ ?_; clear hK K) | (refine seq_skipc (by rfl) ?_; intro K hK; simp only [Act.put, List.setIfInBounds_toArray, List.set_cons_zero, List.set_cons_succ]; refine hK _ ?_; clear hK K) | (refine seq_read (by rfl) (by rfl) ?_; intro K hK; go_big_quiet_op; first | go_big_quiet_on | (refine ⟨_, fun _ _ => rfl, ?_⟩; go_big_quiet_on))))
            refine seq_done ?_
            go_wp2
            go_ret
            exact ⟨rfl, HE.out⟩
end Go.Proofs.YtdbflmceomnmlaaDoor
