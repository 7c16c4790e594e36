/- PteOne. -/
import Derived.Test.YtdifjgppnfcnnaaDoorLaw06a
import Derived.Test.YtdifjgppnfcnnaaDoorFork
namespace Go.Proofs.YtdifjgppnfcnnaaDoor
open Go.ChangeShapes Go.WideShapes Go.ChangeAt Go.RowKit
set_option linter.unusedVariables false
set_option linter.unusedSimpArgs false

theorem ext_below {B : Nat} {w w' : World} (h : Ext w w') (hB : B ≤ w.heap.size) : Below B w w' := Below.mono h hB
theorem Blk.ptf {w : World} {g : Nat} {t : TypeId} {p : Pt} (h : Blk w g t (ptC p)) : w.cell? ⟨g, 0, none⟩ = some (.bool p.v) ∧ w.cell? ⟨g, 5, none⟩ = some (.bool p.g) ∧ w.cell? ⟨g, 6, none⟩ = some (.bool p.a) ∧ w.cell? ⟨g, 7, none⟩ = some (.bool p.d) ∧ w.cell? ⟨g, 8, none⟩ = some (.int .u64 (p.rs : Int)) ∧ w.cell? ⟨g, 9, none⟩ = some (.int .u64 (p.pp : Int)) := by
  rw [ptC_eq] at h
  exact ⟨h.cell 0, h.cell 5, h.cell 6, h.cell 7, h.cell 8, h.cell 9⟩
theorem Blk.made {w : World} {g : Nat} {t : TypeId} {f : Nat} {m : Pm} {b : Bool} (h : Blk w g t (ptC (makeP f m b))) : w.cell? ⟨g, 0, none⟩ = some (.bool true) ∧ w.cell? ⟨g, 5, none⟩ = some (.bool b) ∧ w.cell? ⟨g, 6, none⟩ = some (.bool false) ∧ w.cell? ⟨g, 7, none⟩ = some (.bool false) ∧ w.cell? ⟨g, 9, none⟩ = some (.int .u64 (f : Int)) := by
  rw [makeP_eq] at h
  exact ⟨h.cell 0, h.cell 5, h.cell 6, h.cell 7, h.cell 9⟩
theorem perm_make (f : Nat) (m : Pm) (b : Bool) : permP (makeP f m b) = m := by unfold permP makeP; rfl
/-- nothing, a link, a leaf -/
theorem three (p : Pt) : (leafB p = true ∧ linkB p = false ∧ p.v = true) ∨ (leafB p = false ∧ linkB p = true ∧ p.v = true) ∨ (leafB p = false ∧ linkB p = false ∧ p.v = false) := by
  unfold leafB linkB; cases p.v <;> cases p.r <;> cases p.x <;> simp
theorem bad_many (p : Pt) (l : Int) : badB p l = ((!p.v) || (p.w && !p.r) || !decide (p.hi = 0) || (if p.r || p.x then !decide (p.pp % manyN l = 0) else (l == 0) || p.a || p.d || p.u)) := by unfold badB; rfl
theorem bad_21 (p : Pt) (h : badB p 2 = false) : badB p 1 = false := by
  rw [bad_many] at h ⊢
  rw [show manyN 2 = 262144 from rfl] at h
  rw [show manyN 1 = 512 from rfl]
  simp only [Bool.or_eq_false_iff] at h ⊢
  obtain ⟨h1, h2⟩ := h
  refine ⟨h1, ?_⟩
  split at h2
  · rename_i hx; rw [if_pos hx]
    simp only [Bool.not_eq_false', decide_eq_true_eq] at h2 ⊢; omega
  · rename_i hx; rw [if_neg hx]; exact h2
theorem bad_10 (p : Pt) (h : badB p 1 = false) (h0 : badB p 0 = true) : linkB p = true := by
  rw [bad_many] at h h0
  simp only [Bool.or_eq_false_iff] at h
  obtain ⟨⟨⟨h1, h2⟩, h3⟩, h4⟩ := h
  rw [h1, h2, h3] at h0
  simp only [Bool.false_or] at h0
  by_cases hx : (p.r || p.x) = true
  · rw [if_pos hx, show manyN 0 = 1 from rfl, Nat.mod_one] at h0
    cases h0
  · have hv : p.v = true := by simpa using h1
    simp only [Bool.or_eq_true, not_or, Bool.not_eq_true] at hx
    unfold linkB; rw [hv, hx.1, hx.2]; rfl
theorem bad_leaf (p q : Pt) (h : leafB p = true) (l : Int) : badB ⟨p.v, p.r, p.w, p.x, p.u, q.g, q.a, q.d, q.rs, p.pp, p.hi⟩ l = badB p l := by
  have hx : (p.r || p.x) = true := by unfold leafB at h; simp only [Bool.and_eq_true] at h; exact h.2
  rw [bad_many, bad_many]
  simp only
  rw [if_pos hx, if_pos hx]

set_option maxRecDepth 100000 in
set_option maxHeartbeats 4000000 in
theorem PteOne_w (p : Pt) (hp : p.ok) (q : Pt) (hq : q.ok) (w : World) (hT : Siz w) :
    Calls Tryd.prog 6 #[.agg (ptC p), .agg (ptC q)] w fun e w' => e = .returned (.bool true) ∧ Ext w w' := by
  have HE := Lib.hid (((Ext.refl w).alloc (.cells (ptC p) 24)).alloc (.cells (ptC q) 24))
  have HT := Lib.hid (hT.ext HE.out)
  obtain ⟨hb, hc⟩ := blk_two (Ext.refl ((w.alloc (.cells (ptC p) 24)).alloc (.cells (ptC q) 24)))
  have hleaf := leaf_c p
  have hlink := link_c p
  have f10 := Lib.hid (bad_10 p)
  have f21 := Lib.hid (bad_21 p)
  have flf := Lib.hid (fun h => bad_leaf p q h)
  have h3 := three p
  have hbad := bad_c p hp
  clear hT
  generalize hL : leafB p = L at *
  generalize hK : linkB p = K at *
  go_enter Tryd.func6, Tryd.ntmps6
  go_wp2_with fail; refine (awake6_c _ HT.out).mono ?_; rintro e w1 ⟨rfl, hE⟩; replace HE := Lib.hid (HE.out.trans hE)
  replace hb := (hb.ext hE).drew
  replace hc := (hc.ext hE).drew
  replace HT := Lib.hid ((HT.out.ext hE).ext (Ext.refl _).drew)
  replace HE := Lib.hid HE.out.drew
  clear hE
  go_wp2_with fail
  refine wp_region_seq [(0, false), (1, true), (2, false), (3, false), (4, true), (5, false), (6, false), (7, false), (8, false), (9, false), (10, true), (11, false), (12, false), (13, true), (14, false), (15, false), (16, false)] Ext (by kernel_rfl) (by kernel_rfl) Ext.refl (fun _ _ _ => Ext.trans) ?_; simp only [List.map, nth_z, nth_s]
  refine seq_load rfl rfl (fun x hx => Blk.ext (hb) hx) rfl Tryd.underlying24 (by kernel_rfl) (by rfl) ?_; intro K hK; simp only [Act.put, List.setIfInBounds_toArray, List.set_cons_zero, List.set_cons_succ]; refine hK _ ?_; clear hK K
  refine seq_call (hleaf _) rfl Tryd.func15 (by kernel_rfl) (by kernel_rfl) (by rfl) (by rfl) ?_; intro K hK; rintro e w' ⟨rfl, hE⟩; refine ⟨_, rfl, hE, ?_⟩; simp only [Act.put, List.setIfInBounds_toArray, List.set_cons_zero, List.set_cons_succ]; refine hK _ _ ?_; clear hK K; replace HE := Lib.hid (HE.out.trans hE); replace hb := hb.ext hE; replace hc := hc.ext hE; replace HT := Lib.hid (HT.out.ext hE); clear hE
  rcases h3 with ⟨rfl, rfl, hv⟩ | ⟨rfl, rfl, hv⟩ | ⟨rfl, rfl, hv⟩
  · (repeat (first | (refine seq_skip (by rfl) ?_; intro K hK; simp only [Act.put, List.setIfInBounds_toArray, List.set_cons_zero, List.set_cons_succ]; refine hK _ ?_; clear hK K) | (refine seq_skipc (by rfl) ?_; intro K hK; simp only [Act.put, List.setIfInBounds_toArray, List.set_cons_zero, List.set_cons_succ]; refine hK _ ?_; clear hK K) | (refine seq_read (by rfl) (by rfl) ?_; intro K hK; go_big_quiet_op; first | go_big_quiet_on | (refine ⟨_, fun _ _ => rfl, ?_⟩; go_big_quiet_on))))
    refine seq_load rfl rfl (fun x hx => Blk.ext (hb) hx) rfl Tryd.underlying24 (by kernel_rfl) (by rfl) ?_; intro K hK; simp only [Act.put, List.setIfInBounds_toArray, List.set_cons_zero, List.set_cons_succ]; refine hK _ ?_; clear hK K
    refine seq_call (hlink _) rfl Tryd.func17 (by kernel_rfl) (by kernel_rfl) (by rfl) (by rfl) ?_; intro K hK; rintro e w' ⟨rfl, hE⟩; refine ⟨_, rfl, hE, ?_⟩; simp only [Act.put, List.setIfInBounds_toArray, List.set_cons_zero, List.set_cons_succ]; refine hK _ _ ?_; clear hK K; replace HE := Lib.hid (HE.out.trans hE); replace hb := hb.ext hE; replace hc := hc.ext hE; replace HT := Lib.hid (HT.out.ext hE); clear hE
    (repeat (first | (refine seq_skip (by rfl) ?_; intro K hK; simp only [Act.put, List.setIfInBounds_toArray, List.set_cons_zero, List.set_cons_succ]; refine hK _ ?_; clear hK K) | (refine seq_skipc (by rfl) ?_; intro K hK; simp only [Act.put, List.setIfInBounds_toArray, List.set_cons_zero, List.set_cons_succ]; refine hK _ ?_; clear hK K) | (refine seq_read (by rfl) (by rfl) ?_; intro K hK; go_big_quiet_op; first | go_big_quiet_on | (refine ⟨_, fun _ _ => rfl, ?_⟩; go_big_quiet_on))))
    have b0 := hb.ptf.1
    rw [hv] at b0
    refine seq_value (.bool true) (by rfl) (fun x hx => by have hq := ext_cell hx (b0); simp [go_sem, execOp, Act.eval, hq]) ?_; intro K hK; simp only [Act.put, List.setIfInBounds_toArray, List.set_cons_zero, List.set_cons_succ]; refine hK _ ?_; clear hK K
    clear b0 hv
    refine seq_load rfl rfl (fun x hx => Blk.ext (hb) hx) rfl Tryd.underlying24 (by kernel_rfl) (by rfl) ?_; intro K hK; simp only [Act.put, List.setIfInBounds_toArray, List.set_cons_zero, List.set_cons_succ]; refine hK _ ?_; clear hK K
    refine seq_call (hleaf _) rfl Tryd.func15 (by kernel_rfl) (by kernel_rfl) (by rfl) (by rfl) ?_; intro K hK; rintro e w' ⟨rfl, hE⟩; refine ⟨_, rfl, hE, ?_⟩; simp only [Act.put, List.setIfInBounds_toArray, List.set_cons_zero, List.set_cons_succ]; refine hK _ _ ?_; clear hK K; replace HE := Lib.hid (HE.out.trans hE); replace hb := hb.ext hE; replace hc := hc.ext hE; replace HT := Lib.hid (HT.out.ext hE); clear hE
    (repeat (first | (refine seq_skip (by rfl) ?_; intro K hK; simp only [Act.put, List.setIfInBounds_toArray, List.set_cons_zero, List.set_cons_succ]; refine hK _ ?_; clear hK K) | (refine seq_skipc (by rfl) ?_; intro K hK; simp only [Act.put, List.setIfInBounds_toArray, List.set_cons_zero, List.set_cons_succ]; refine hK _ ?_; clear hK K) | (refine seq_read (by rfl) (by rfl) ?_; intro K hK; go_big_quiet_op; first | go_big_quiet_on | (refine ⟨_, fun _ _ => rfl, ?_⟩; go_big_quiet_on))))
    refine seq_done ?_
    go_wp2_with fail
    go_loopw [5] (fun a W => ∃ l : Int, 1 ≤ l ∧ l ≤ 3 ∧ a = .int .i64 l ∧ Ext w' W) (fun a _ => 3 - (intOf a).toNat)
    case atStart => exact ⟨1, by omega, by omega, rfl, Ext.refl _⟩
    case round =>
      obtain ⟨l, hl1, hl3, rfl, hEl⟩ := hrel
      replace hb := hb.ext hEl
      replace hc := hc.ext hEl
      replace HT := Lib.hid (HT.out.ext hEl)
      have HW := Lib.hid hEl
      clear hEl
      obtain rfl | rfl | rfl : l = 1 ∨ l = 2 ∨ l = 3 := by omega
      · have hbd := hbad 1 (by decide) (by decide)
        cases hB1 : badB p 1
        · rw [hB1] at hbd
          go_wp2_with (refine wpList_load_blk (by rfl) 24 _ rfl rfl (by assumption) Tryd.underlying24 rfl (by kernel_rfl) ?_)
          refine (hbd _ HT.out).mono ?_
          rintro e w5 ⟨rfl, hE⟩
          replace HW := Lib.hid (HW.out.trans hE)
          replace hb := hb.ext hE
          replace hc := hc.ext hE
          replace HT := Lib.hid (HT.out.ext hE)
          clear hE
          clear hbd
          have hbd := hbad 0 (by decide) (by decide)
          cases hB0 : badB p 0
          · rw [hB0] at hbd
            go_wp2_with (refine wpList_load_blk (by rfl) 24 _ rfl rfl (by assumption) Tryd.underlying24 rfl (by kernel_rfl) ?_)
            refine (hbd _ HT.out).mono ?_
            rintro e w5 ⟨rfl, hE⟩
            replace HW := Lib.hid (HW.out.trans hE)
            replace hb := hb.ext hE
            replace hc := hc.ext hE
            replace HT := Lib.hid (HT.out.ext hE)
            clear hE
            clear hbd
            go_wp2
            go_roundw
            case rel => exact ⟨2, by omega, by omega, rfl, HW.out⟩
            case measure => simp [intOf]
          · rw [hB0] at hbd
            have hk := f10.out hB1 hB0
            first
              | (cases hk; done)
              | skip
                go_wp2_with (refine wpList_load_blk (by rfl) 24 _ rfl rfl (by assumption) Tryd.underlying24 rfl (by kernel_rfl) ?_)
                refine (hbd _ HT.out).mono ?_
                rintro e w5 ⟨rfl, hE⟩
                replace HW := Lib.hid (HW.out.trans hE)
                replace hb := hb.ext hE
                replace hc := hc.ext hE
                replace HT := Lib.hid (HT.out.ext hE)
                clear hE
                clear hbd hk
                go_wp2_with (refine wpList_load_blk (by rfl) 24 _ rfl rfl (by assumption) Tryd.underlying24 rfl (by kernel_rfl) ?_)
                refine (hlink _).mono ?_
                rintro e w5 ⟨rfl, hE⟩
                replace HW := Lib.hid (HW.out.trans hE)
                replace hb := hb.ext hE
                replace hc := hc.ext hE
                replace HT := Lib.hid (HT.out.ext hE)
                clear hE
                go_wp2
                go_roundw
                case rel => exact ⟨2, by omega, by omega, rfl, HW.out⟩
                case measure => simp [intOf]
        · rw [hB1] at hbd
          go_wp2_with (refine wpList_load_blk (by rfl) 24 _ rfl rfl (by assumption) Tryd.underlying24 rfl (by kernel_rfl) ?_)
          refine (hbd _ HT.out).mono ?_
          rintro e w5 ⟨rfl, hE⟩
          replace HW := Lib.hid (HW.out.trans hE)
          replace hb := hb.ext hE
          replace hc := hc.ext hE
          replace HT := Lib.hid (HT.out.ext hE)
          clear hE
          clear hbd
          go_wp2
          go_roundw
          case rel => exact ⟨2, by omega, by omega, rfl, HW.out⟩
          case measure => simp [intOf]
      · have hbd := hbad 2 (by decide) (by decide)
        cases hB2 : badB p 2
        · rw [hB2] at hbd
          go_wp2_with (refine wpList_load_blk (by rfl) 24 _ rfl rfl (by assumption) Tryd.underlying24 rfl (by kernel_rfl) ?_)
          refine (hbd _ HT.out).mono ?_
          rintro e w5 ⟨rfl, hE⟩
          replace HW := Lib.hid (HW.out.trans hE)
          replace hb := hb.ext hE
          replace hc := hc.ext hE
          replace HT := Lib.hid (HT.out.ext hE)
          clear hE
          clear hbd
          have hbd := hbad 1 (by decide) (by decide)
          rw [f21.out hB2] at hbd
          go_wp2_with (refine wpList_load_blk (by rfl) 24 _ rfl rfl (by assumption) Tryd.underlying24 rfl (by kernel_rfl) ?_)
          refine (hbd _ HT.out).mono ?_
          rintro e w5 ⟨rfl, hE⟩
          replace HW := Lib.hid (HW.out.trans hE)
          replace hb := hb.ext hE
          replace hc := hc.ext hE
          replace HT := Lib.hid (HT.out.ext hE)
          clear hE
          clear hbd
          go_wp2
          go_roundw
          case rel => exact ⟨3, by omega, by omega, rfl, HW.out⟩
          case measure => simp [intOf]
        · rw [hB2] at hbd
          go_wp2_with (refine wpList_load_blk (by rfl) 24 _ rfl rfl (by assumption) Tryd.underlying24 rfl (by kernel_rfl) ?_)
          refine (hbd _ HT.out).mono ?_
          rintro e w5 ⟨rfl, hE⟩
          replace HW := Lib.hid (HW.out.trans hE)
          replace hb := hb.ext hE
          replace hc := hc.ext hE
          replace HT := Lib.hid (HT.out.ext hE)
          clear hE
          clear hbd
          go_wp2
          go_roundw
          case rel => exact ⟨3, by omega, by omega, rfl, HW.out⟩
          case measure => simp [intOf]
      · have hbx := hb
        rw [ptC_eq] at hbx
        obtain ⟨b0, b1, b2, b3, b4, b5, b6, b7, b8, b9, b10⟩ := hbx.pt
        obtain ⟨-, c5, c6, c7, c8, -⟩ := hc.ptf
        have hlp := hb.lt
        have hlq := hc.lt
        clear hbx hlink
        go_wp2
        have hz := Blk.new wr 24 (ptC ⟨p.v, p.r, p.w, p.x, p.u, q.g, q.a, q.d, q.rs, p.pp, p.hi⟩)
        have hE := (Ext.refl wr).alloc (.cells (ptC ⟨p.v, p.r, p.w, p.x, p.u, q.g, q.a, q.d, q.rs, p.pp, p.hi⟩) 24)
        replace HW := Lib.hid (HW.out.trans hE)
        replace hb := hb.ext hE
        replace HT := Lib.hid (HT.out.ext hE)
        clear hE b0 b1 b2 b3 b4 b5 b6 b7 b8 b9 b10 c5 c6 c7 c8 hlp hlq hc
        have hX : Pt.ok ⟨p.v, p.r, p.w, p.x, p.u, q.g, q.a, q.d, q.rs, p.pp, p.hi⟩ := ⟨hq.1, hp.2.1, hp.2.2⟩
        have hbadx := bad_c ⟨p.v, p.r, p.w, p.x, p.u, q.g, q.a, q.d, q.rs, p.pp, p.hi⟩ hX
        generalize hW2 : wr.alloc (.cells (ptC ⟨p.v, p.r, p.w, p.x, p.u, q.g, q.a, q.d, q.rs, p.pp, p.hi⟩) 24) = W2 at hz hb HT HW
        rw [ptC_def] at hW2
        rw [hW2]
        clear hW2
        clear hX
        generalize (⟨p.v, p.r, p.w, p.x, p.u, q.g, q.a, q.d, q.rs, p.pp, p.hi⟩ : Pt) = X at hz hbadx flf
        go_loopw [7] (fun a W => ∃ l : Int, 0 ≤ l ∧ l ≤ 3 ∧ a = .int .i64 l ∧ Ext W2 W) (fun a _ => 3 - (intOf a).toNat)
        case atStart => exact ⟨0, by omega, by omega, rfl, Ext.refl _⟩
        case round =>
          obtain ⟨l, hl1, hl3, rfl, hEl⟩ := hrel
          replace hb := hb.ext hEl
          replace hz := hz.ext hEl
          replace HT := Lib.hid (HT.out.ext hEl)
          have HW0 := HW
          replace HW := Lib.hid hEl
          clear hEl
          by_cases hlt : l < 3
          · go_wp2_with fail
            replace hb := hb.drew
            replace hz := hz.drew
            replace HT := Lib.hid (HT.out.ext (Ext.refl _).drew)
            replace HW := Lib.hid HW.out.drew
            refine wp_region_seq [(0, false), (1, true), (2, false), (3, false), (4, false), (6, false), (7, false), (5, true), (8, true), (9, false), (10, false)] Ext (by kernel_rfl) (by kernel_rfl) Ext.refl (fun _ _ _ => Ext.trans) ?_; simp only [List.map, nth_z, nth_s]
            refine seq_load rfl rfl (fun x hx => Blk.ext (hb) hx) rfl Tryd.underlying24 (by kernel_rfl) (by rfl) ?_; intro K hK; simp only [Act.put, List.setIfInBounds_toArray, List.set_cons_zero, List.set_cons_succ]; refine hK _ ?_; clear hK K
            refine seq_call (hleaf _) rfl Tryd.func15 (by kernel_rfl) (by kernel_rfl) (by rfl) (by rfl) ?_; intro K hK; rintro e w' ⟨rfl, hE⟩; refine ⟨_, rfl, hE, ?_⟩; simp only [Act.put, List.setIfInBounds_toArray, List.set_cons_zero, List.set_cons_succ]; refine hK _ _ ?_; clear hK K; replace HW := Lib.hid (HW.out.trans hE); replace hb := hb.ext hE; replace hz := hz.ext hE; replace HT := Lib.hid (HT.out.ext hE); clear hE
            (repeat (first | (refine seq_skip (by rfl) ?_; intro K hK; simp only [Act.put, List.setIfInBounds_toArray, List.set_cons_zero, List.set_cons_succ]; refine hK _ ?_; clear hK K) | (refine seq_skipc (by rfl) ?_; intro K hK; simp only [Act.put, List.setIfInBounds_toArray, List.set_cons_zero, List.set_cons_succ]; refine hK _ ?_; clear hK K) | (refine seq_read (by rfl) (by rfl) ?_; intro K hK; go_big_quiet_op; first | go_big_quiet_on | (refine ⟨_, fun _ _ => rfl, ?_⟩; go_big_quiet_on))))
            first
              | refine seq_done ?_
              | skip
                have hbp := hbad l (by omega) (by omega)
                have hbq := hbadx l (by omega) (by omega)
                rw [flf.out trivial l] at hbq
                generalize badB p l = B at hbp hbq
                refine seq_load rfl rfl (fun x hx => Blk.ext (hb) hx) rfl Tryd.underlying24 (by kernel_rfl) (by rfl) ?_; intro K hK; simp only [Act.put, List.setIfInBounds_toArray, List.set_cons_zero, List.set_cons_succ]; refine hK _ ?_; clear hK K
                (repeat (first | (refine seq_skip (by rfl) ?_; intro K hK; simp only [Act.put, List.setIfInBounds_toArray, List.set_cons_zero, List.set_cons_succ]; refine hK _ ?_; clear hK K) | (refine seq_skipc (by rfl) ?_; intro K hK; simp only [Act.put, List.setIfInBounds_toArray, List.set_cons_zero, List.set_cons_succ]; refine hK _ ?_; clear hK K) | (refine seq_read (by rfl) (by rfl) ?_; intro K hK; go_big_quiet_op; first | go_big_quiet_on | (refine ⟨_, fun _ _ => rfl, ?_⟩; go_big_quiet_on))))
                refine seq_load rfl rfl (fun x hx => Blk.ext (hz) hx) rfl Tryd.underlying24 (by kernel_rfl) (by rfl) ?_; intro K hK; simp only [Act.put, List.setIfInBounds_toArray, List.set_cons_zero, List.set_cons_succ]; refine hK _ ?_; clear hK K
                (repeat (first | (refine seq_skip (by rfl) ?_; intro K hK; simp only [Act.put, List.setIfInBounds_toArray, List.set_cons_zero, List.set_cons_succ]; refine hK _ ?_; clear hK K) | (refine seq_skipc (by rfl) ?_; intro K hK; simp only [Act.put, List.setIfInBounds_toArray, List.set_cons_zero, List.set_cons_succ]; refine hK _ ?_; clear hK K) | (refine seq_read (by rfl) (by rfl) ?_; intro K hK; go_big_quiet_op; first | go_big_quiet_on | (refine ⟨_, fun _ _ => rfl, ?_⟩; go_big_quiet_on))))
                refine seq_call (hbp _ HT.out) rfl Tryd.func19 (by kernel_rfl) (by kernel_rfl) (by rfl) (by rfl) ?_; intro K hK; rintro e w' ⟨rfl, hE⟩; refine ⟨_, rfl, hE, ?_⟩; simp only [Act.put, List.setIfInBounds_toArray, List.set_cons_zero, List.set_cons_succ]; refine hK _ _ ?_; clear hK K; replace HW := Lib.hid (HW.out.trans hE); replace hb := hb.ext hE; replace hz := hz.ext hE; replace HT := Lib.hid (HT.out.ext hE); clear hE
                refine seq_call (hbq _ HT.out) rfl Tryd.func19 (by kernel_rfl) (by kernel_rfl) (by rfl) (by rfl) ?_; intro K hK; rintro e w' ⟨rfl, hE⟩; refine ⟨_, rfl, hE, ?_⟩; simp only [Act.put, List.setIfInBounds_toArray, List.set_cons_zero, List.set_cons_succ]; refine hK _ _ ?_; clear hK K; replace HW := Lib.hid (HW.out.trans hE); replace hb := hb.ext hE; replace hz := hz.ext hE; replace HT := Lib.hid (HT.out.ext hE); clear hE
                clear hbp hbq
                (repeat (first | (refine seq_skip (by rfl) ?_; intro K hK; simp only [Act.put, List.setIfInBounds_toArray, List.set_cons_zero, List.set_cons_succ]; refine hK _ ?_; clear hK K) | (refine seq_skipc (by rfl) ?_; intro K hK; simp only [Act.put, List.setIfInBounds_toArray, List.set_cons_zero, List.set_cons_succ]; refine hK _ ?_; clear hK K) | (refine seq_read (by rfl) (by rfl) ?_; intro K hK; go_big_quiet_op; first | go_big_quiet_on | (refine ⟨_, fun _ _ => rfl, ?_⟩; go_big_quiet_on))))
                refine seq_done ?_
            go_wp2
            go_roundw
            case rel => exact ⟨l + 1, by omega, by omega, by go_num, HW.out⟩
            case measure => simp [intOf]; omega
          · obtain rfl : l = 3 := by omega
            clear hbad hbadx hleaf flf f10 f21 HT hz hlt hl1 hl3
            go_wp2_with fail
            replace hb := hb.drew
            have hlp : w.heap.size < wr.heap.size := hb.lt
            replace HW := Lib.hid (HW0.out.trans HW.out.drew)
            clear HW0
            obtain ⟨-, b5, -, -, -, b9⟩ := hb.ptf
            refine wp_region_fork2 [(0, false), (1, false), (2, false), (4, false), (5, false)] 3 [] 6 [(7, true), (8, true)] 7 [(6, true), (8, true)] 7 [(3, true), (6, true), (8, true)] (Below wr.heap.size) (by kernel_rfl) (by kernel_rfl) (Below.refl _) (fun _ _ _ => Below.trans) ?_
            simp only [List.map, nth_z, nth_s]
            (repeat (first | (refine seq_skip (by rfl) ?_; intro K hK; simp only [Act.put, List.setIfInBounds_toArray, List.set_cons_zero, List.set_cons_succ]; refine hK _ ?_; clear hK K) | (refine seq_skipc (by rfl) ?_; intro K hK; simp only [Act.put, List.setIfInBounds_toArray, List.set_cons_zero, List.set_cons_succ]; refine hK _ ?_; clear hK K) | (refine seq_read (by rfl) (by rfl) ?_; intro K hK; go_big_quiet_op; first | go_big_quiet_on | (refine ⟨_, fun _ _ => rfl, ?_⟩; go_big_quiet_on))))
            refine seq_value (.int .u64 (p.pp : Int)) (by rfl) (fun x hx => by have hq := (Below.cell hx (p := ⟨w.heap.size, 9, none⟩) (by simp; omega)).trans (b9); simp [go_sem, execOp, Act.eval, hq]) ?_; intro K hK; simp only [Act.put, List.setIfInBounds_toArray, List.set_cons_zero, List.set_cons_succ]; refine hK _ ?_; clear hK K
            refine seq_load rfl rfl (fun x hx => Blk.lower (hb) hx (by omega)) rfl Tryd.underlying24 (by kernel_rfl) (by rfl) ?_; intro K hK; simp only [Act.put, List.setIfInBounds_toArray, List.set_cons_zero, List.set_cons_succ]; refine hK _ ?_; clear hK K
            (repeat (first | (refine seq_skip (by rfl) ?_; intro K hK; simp only [Act.put, List.setIfInBounds_toArray, List.set_cons_zero, List.set_cons_succ]; refine hK _ ?_; clear hK K) | (refine seq_skipc (by rfl) ?_; intro K hK; simp only [Act.put, List.setIfInBounds_toArray, List.set_cons_zero, List.set_cons_succ]; refine hK _ ?_; clear hK K) | (refine seq_read (by rfl) (by rfl) ?_; intro K hK; go_big_quiet_op; first | go_big_quiet_on | (refine ⟨_, fun _ _ => rfl, ?_⟩; go_big_quiet_on))))
            refine seq_value (.bool p.g) (by rfl) (fun x hx => by have hq := (Below.cell hx (p := ⟨w.heap.size, 5, none⟩) (by simp; omega)).trans (b5); simp [go_sem, execOp, Act.eval, hq]) ?_; intro K hK; simp only [Act.put, List.setIfInBounds_toArray, List.set_cons_zero, List.set_cons_succ]; refine hK _ ?_; clear hK K
            clear b5 b9
            refine seq_done ?_
            have hw0 : wr.drew.heap.size = wr.heap.size := rfl
            have hs0 : wr.heap.size ≤ wr.drew.heap.size := Nat.le_refl _
            generalize wr.drew = wd at hb HW hw0 hs0 ⊢
            generalize hBB : wr.heap.size = B at hlp hs0 hw0 ⊢
            refine ⟨?_, ?_⟩
            · refine seq_call (perm_c p _) rfl Tryd.func23 (by kernel_rfl) (by kernel_rfl) (by rfl) (by rfl) ?_; intro K hK; rintro e w' ⟨rfl, hE⟩; refine ⟨_, rfl, (ext_below hE hs0), ?_⟩; simp only [Act.put, List.setIfInBounds_toArray, List.set_cons_zero, List.set_cons_succ]; refine hK _ _ ?_; clear hK K
              replace HW := Lib.hid (HW.out.trans hE)
              replace hb := hb.ext hE
              replace hs0 := Nat.le_trans hs0 hE.size
              clear hE
              refine seq_done ?_
              refine seq_done ?_
              refine ⟨?_, ?_⟩
              · refine seq_call (make_c p.pp (permP p) p.g _) rfl Tryd.func21 (by kernel_rfl) (by kernel_rfl) (by rfl) (by rfl) ?_; intro K hK; rintro e w' ⟨rfl, hE⟩; refine ⟨_, rfl, (ext_below hE hs0), ?_⟩; simp only [Act.put, List.setIfInBounds_toArray, List.set_cons_zero, List.set_cons_succ]; refine hK _ _ ?_; clear hK K
                replace HW := Lib.hid (HW.out.trans hE)
                replace hb := hb.ext hE
                replace hs0 := Nat.le_trans hs0 hE.size
                clear hE
                refine seq_done ?_
                have hn := Blk.new w' 24 #[.bool false, .bool false, .bool false, .bool false, .bool false, .bool false, .bool false, .bool false, .int .u64 0, .int .u64 0, .int .u64 0]
                have hlt := hb.lt
                refine seq_run (.pointer (some ⟨(w').heap.size, 0, none⟩)) ((w').alloc (.cells #[.bool false, .bool false, .bool false, .bool false, .bool false, .bool false, .bool false, .bool false, .int .u64 0, .int .u64 0, .int .u64 0] 24)) (by rfl) ?_ ((Below.refl _ _).alloc hs0 _) ?_; (simp [go_sem, execOp, Act.eval]); intro K hK; simp only [Act.put, List.setIfInBounds_toArray, List.set_cons_zero, List.set_cons_succ]; refine hK _ _ ?_; clear hK K
                refine seq_store_row rfl rfl rfl (hn) (pt_info _) (by simp [ptC_size]) (ptC_one _) (by rfl) ((below_row (Below.refl _ _) hs0 _)) ?_; intro K hK; simp only [Act.put, List.setIfInBounds_toArray, List.set_cons_zero, List.set_cons_succ]; refine hK _ _ ?_; clear hK K
                refine seq_done ?_
                have hm := hn.row (ptC (makeP p.pp (permP p) p.g))
                replace hb := (hb.alloc (.cells #[.bool false, .bool false, .bool false, .bool false, .bool false, .bool false, .bool false, .bool false, .int .u64 0, .int .u64 0, .int .u64 0] 24)).apart (k := w'.heap.size) (by omega) (ptC (makeP p.pp (permP p) p.g))
                replace HW := Lib.hid (Ext.row (HW.out.alloc (.cells #[.bool false, .bool false, .bool false, .bool false, .bool false, .bool false, .bool false, .bool false, .int .u64 0, .int .u64 0, .int .u64 0] 24)) HW.out.size (ptC (makeP p.pp (permP p) p.g)))
                generalize (w'.alloc (.cells #[.bool false, .bool false, .bool false, .bool false, .bool false, .bool false, .bool false, .bool false, .int .u64 0, .int .u64 0, .int .u64 0] 24)).setRow w'.heap.size (ptC (makeP p.pp (permP p) p.g)) = wf at hb hm HW ⊢
                have hpm := fun w => perm_c (makeP p.pp (permP p) p.g) w
                rw [perm_make] at hpm
                go_wp2_with fail
                replace hb := hb.drew
                replace hm := hm.drew
                replace HW := Lib.hid HW.out.drew
                refine wp_region_seq [(0, false), (2, false), (1, true), (3, true), (4, false), (5, false), (6, false), (7, false), (8, false), (9, false), (10, false), (11, false), (12, false), (13, false), (14, false), (15, false), (16, false), (17, false), (18, false), (19, false), (20, false), (21, false), (22, false), (23, false), (24, false), (25, false), (26, false), (27, false), (28, false), (29, false), (30, false), (31, false), (32, false), (33, false)] Ext (by kernel_rfl) (by kernel_rfl) Ext.refl (fun _ _ _ => Ext.trans) ?_; simp only [List.map, nth_z, nth_s]
                refine seq_load rfl rfl (fun x hx => Blk.ext (hm) hx) rfl Tryd.underlying24 (by kernel_rfl) (by rfl) ?_; intro K hK; simp only [Act.put, List.setIfInBounds_toArray, List.set_cons_zero, List.set_cons_succ]; refine hK _ ?_; clear hK K
                refine seq_load rfl rfl (fun x hx => Blk.ext (hb) hx) rfl Tryd.underlying24 (by kernel_rfl) (by rfl) ?_; intro K hK; simp only [Act.put, List.setIfInBounds_toArray, List.set_cons_zero, List.set_cons_succ]; refine hK _ ?_; clear hK K
                refine seq_call (hpm _) rfl Tryd.func23 (by kernel_rfl) (by kernel_rfl) (by rfl) (by rfl) ?_; intro K hK; rintro e w' ⟨rfl, hE⟩; refine ⟨_, rfl, hE, ?_⟩; simp only [Act.put, List.setIfInBounds_toArray, List.set_cons_zero, List.set_cons_succ]; refine hK _ _ ?_; clear hK K; replace HW := Lib.hid (HW.out.trans hE); replace hb := hb.ext hE; replace hm := hm.ext hE; clear hE
                refine seq_call (perm_c p _) rfl Tryd.func23 (by kernel_rfl) (by kernel_rfl) (by rfl) (by rfl) ?_; intro K hK; rintro e w' ⟨rfl, hE⟩; refine ⟨_, rfl, hE, ?_⟩; simp only [Act.put, List.setIfInBounds_toArray, List.set_cons_zero, List.set_cons_succ]; refine hK _ _ ?_; clear hK K; replace HW := Lib.hid (HW.out.trans hE); replace hb := hb.ext hE; replace hm := hm.ext hE; clear hE
                clear hpm
                obtain ⟨-, b5, -, -, -, b9⟩ := hb.ptf
                obtain ⟨m0, m5, m6, m7, m9⟩ := hm.made
                clear hb hm
                refine seq_value (.bool true) (by rfl) (fun x hx => by simp [go_sem, execOp, Act.eval, eql_perm, run_eqGuard_agg _ _ _ _ _ _ _ pte_guard, run_eqGuard_agg _ _ _ _ _ _ _ perm_guard]) ?_; intro K hK; simp only [Act.put, List.setIfInBounds_toArray, List.set_cons_zero, List.set_cons_succ]; refine hK _ ?_; clear hK K
                (repeat (first | (refine seq_skip (by rfl) ?_; intro K hK; simp only [Act.put, List.setIfInBounds_toArray, List.set_cons_zero, List.set_cons_succ]; refine hK _ ?_; clear hK K) | (refine seq_skipc (by rfl) ?_; intro K hK; simp only [Act.put, List.setIfInBounds_toArray, List.set_cons_zero, List.set_cons_succ]; refine hK _ ?_; clear hK K) | (refine seq_read (by rfl) (by rfl) ?_; intro K hK; go_big_quiet_op; first | go_big_quiet_on | (refine ⟨_, fun _ _ => rfl, ?_⟩; go_big_quiet_on))))
                refine seq_value (.bool true) (by rfl) (fun x hx => by have hq := ext_cell hx (m0); simp [go_sem, execOp, Act.eval, hq]) ?_; intro K hK; simp only [Act.put, List.setIfInBounds_toArray, List.set_cons_zero, List.set_cons_succ]; refine hK _ ?_; clear hK K
                (repeat (first | (refine seq_skip (by rfl) ?_; intro K hK; simp only [Act.put, List.setIfInBounds_toArray, List.set_cons_zero, List.set_cons_succ]; refine hK _ ?_; clear hK K) | (refine seq_skipc (by rfl) ?_; intro K hK; simp only [Act.put, List.setIfInBounds_toArray, List.set_cons_zero, List.set_cons_succ]; refine hK _ ?_; clear hK K) | (refine seq_read (by rfl) (by rfl) ?_; intro K hK; go_big_quiet_op; first | go_big_quiet_on | (refine ⟨_, fun _ _ => rfl, ?_⟩; go_big_quiet_on))))
                refine seq_value (.int .u64 (p.pp : Int)) (by rfl) (fun x hx => by have hq := ext_cell hx (m9); simp [go_sem, execOp, Act.eval, hq]) ?_; intro K hK; simp only [Act.put, List.setIfInBounds_toArray, List.set_cons_zero, List.set_cons_succ]; refine hK _ ?_; clear hK K
                (repeat (first | (refine seq_skip (by rfl) ?_; intro K hK; simp only [Act.put, List.setIfInBounds_toArray, List.set_cons_zero, List.set_cons_succ]; refine hK _ ?_; clear hK K) | (refine seq_skipc (by rfl) ?_; intro K hK; simp only [Act.put, List.setIfInBounds_toArray, List.set_cons_zero, List.set_cons_succ]; refine hK _ ?_; clear hK K) | (refine seq_read (by rfl) (by rfl) ?_; intro K hK; go_big_quiet_op; first | go_big_quiet_on | (refine ⟨_, fun _ _ => rfl, ?_⟩; go_big_quiet_on))))
                refine seq_value (.int .u64 (p.pp : Int)) (by rfl) (fun x hx => by have hq := ext_cell hx (b9); simp [go_sem, execOp, Act.eval, hq]) ?_; intro K hK; simp only [Act.put, List.setIfInBounds_toArray, List.set_cons_zero, List.set_cons_succ]; refine hK _ ?_; clear hK K
                (repeat (first | (refine seq_skip (by rfl) ?_; intro K hK; simp only [Act.put, List.setIfInBounds_toArray, List.set_cons_zero, List.set_cons_succ]; refine hK _ ?_; clear hK K) | (refine seq_skipc (by rfl) ?_; intro K hK; simp only [Act.put, List.setIfInBounds_toArray, List.set_cons_zero, List.set_cons_succ]; refine hK _ ?_; clear hK K) | (refine seq_read (by rfl) (by rfl) ?_; intro K hK; go_big_quiet_op; first | go_big_quiet_on | (refine ⟨_, fun _ _ => rfl, ?_⟩; go_big_quiet_on))))
                refine seq_value (.bool p.g) (by rfl) (fun x hx => by have hq := ext_cell hx (m5); simp [go_sem, execOp, Act.eval, hq]) ?_; intro K hK; simp only [Act.put, List.setIfInBounds_toArray, List.set_cons_zero, List.set_cons_succ]; refine hK _ ?_; clear hK K
                (repeat (first | (refine seq_skip (by rfl) ?_; intro K hK; simp only [Act.put, List.setIfInBounds_toArray, List.set_cons_zero, List.set_cons_succ]; refine hK _ ?_; clear hK K) | (refine seq_skipc (by rfl) ?_; intro K hK; simp only [Act.put, List.setIfInBounds_toArray, List.set_cons_zero, List.set_cons_succ]; refine hK _ ?_; clear hK K) | (refine seq_read (by rfl) (by rfl) ?_; intro K hK; go_big_quiet_op; first | go_big_quiet_on | (refine ⟨_, fun _ _ => rfl, ?_⟩; go_big_quiet_on))))
                refine seq_value (.bool p.g) (by rfl) (fun x hx => by have hq := ext_cell hx (b5); simp [go_sem, execOp, Act.eval, hq]) ?_; intro K hK; simp only [Act.put, List.setIfInBounds_toArray, List.set_cons_zero, List.set_cons_succ]; refine hK _ ?_; clear hK K
                (repeat (first | (refine seq_skip (by rfl) ?_; intro K hK; simp only [Act.put, List.setIfInBounds_toArray, List.set_cons_zero, List.set_cons_succ]; refine hK _ ?_; clear hK K) | (refine seq_skipc (by rfl) ?_; intro K hK; simp only [Act.put, List.setIfInBounds_toArray, List.set_cons_zero, List.set_cons_succ]; refine hK _ ?_; clear hK K) | (refine seq_read (by rfl) (by rfl) ?_; intro K hK; go_big_quiet_op; first | go_big_quiet_on | (refine ⟨_, fun _ _ => rfl, ?_⟩; go_big_quiet_on))))
                refine seq_value (.bool false) (by rfl) (fun x hx => by have hq := ext_cell hx (m6); simp [go_sem, execOp, Act.eval, hq]) ?_; intro K hK; simp only [Act.put, List.setIfInBounds_toArray, List.set_cons_zero, List.set_cons_succ]; refine hK _ ?_; clear hK K
                (repeat (first | (refine seq_skip (by rfl) ?_; intro K hK; simp only [Act.put, List.setIfInBounds_toArray, List.set_cons_zero, List.set_cons_succ]; refine hK _ ?_; clear hK K) | (refine seq_skipc (by rfl) ?_; intro K hK; simp only [Act.put, List.setIfInBounds_toArray, List.set_cons_zero, List.set_cons_succ]; refine hK _ ?_; clear hK K) | (refine seq_read (by rfl) (by rfl) ?_; intro K hK; go_big_quiet_op; first | go_big_quiet_on | (refine ⟨_, fun _ _ => rfl, ?_⟩; go_big_quiet_on))))
                refine seq_value (.bool false) (by rfl) (fun x hx => by have hq := ext_cell hx (m7); simp [go_sem, execOp, Act.eval, hq]) ?_; intro K hK; simp only [Act.put, List.setIfInBounds_toArray, List.set_cons_zero, List.set_cons_succ]; refine hK _ ?_; clear hK K
                (repeat (first | (refine seq_skip (by rfl) ?_; intro K hK; simp only [Act.put, List.setIfInBounds_toArray, List.set_cons_zero, List.set_cons_succ]; refine hK _ ?_; clear hK K) | (refine seq_skipc (by rfl) ?_; intro K hK; simp only [Act.put, List.setIfInBounds_toArray, List.set_cons_zero, List.set_cons_succ]; refine hK _ ?_; clear hK K) | (refine seq_read (by rfl) (by rfl) ?_; intro K hK; go_big_quiet_op; first | go_big_quiet_on | (refine ⟨_, fun _ _ => rfl, ?_⟩; go_big_quiet_on))))
                refine seq_done ?_
                clear b5 b9 m0 m5 m6 m7 m9
                go_wp2
                go_ret
                exact ⟨rfl, HE.out.trans HW.out⟩
              · have hn := Blk.new w' 24 #[.bool false, .bool false, .bool false, .bool false, .bool false, .bool false, .bool false, .bool false, .int .u64 0, .int .u64 0, .int .u64 0]
                have hlt := hb.lt
                replace hb := hb.alloc (.cells #[.bool false, .bool false, .bool false, .bool false, .bool false, .bool false, .bool false, .bool false, .int .u64 0, .int .u64 0, .int .u64 0] 24)
                obtain ⟨g, hg⟩ : ∃ g, g = w'.heap.size := ⟨_, rfl⟩
                have hs1 : B ≤ (w'.alloc (.cells #[.bool false, .bool false, .bool false, .bool false, .bool false, .bool false, .bool false, .bool false, .int .u64 0, .int .u64 0, .int .u64 0] 24)).heap.size := by simp; omega
                have hg0 : g < (w'.alloc (.cells #[.bool false, .bool false, .bool false, .bool false, .bool false, .bool false, .bool false, .bool false, .int .u64 0, .int .u64 0, .int .u64 0] 24)).heap.size := by simp; omega
                have HO := Lib.hid (show _ ≤ g from hg ▸ HW.out.size)
                replace HW := Lib.hid (HW.out.alloc (.cells #[.bool false, .bool false, .bool false, .bool false, .bool false, .bool false, .bool false, .bool false, .int .u64 0, .int .u64 0, .int .u64 0] 24))
                refine seq_run (.pointer (some ⟨(w').heap.size, 0, none⟩)) ((w').alloc (.cells #[.bool false, .bool false, .bool false, .bool false, .bool false, .bool false, .bool false, .bool false, .int .u64 0, .int .u64 0, .int .u64 0] 24)) (by rfl) ?_ ((Below.refl _ _).alloc hs0 _) ?_; (simp [go_sem, execOp, Act.eval]); intro K hK; simp only [Act.put, List.setIfInBounds_toArray, List.set_cons_zero, List.set_cons_succ]; refine hK _ _ ?_; clear hK K
                rw [← hg] at hn hlt hs0 ⊢
                clear hg
                refine seq_done ?_
                generalize w'.alloc (.cells #[.bool false, .bool false, .bool false, .bool false, .bool false, .bool false, .bool false, .bool false, .int .u64 0, .int .u64 0, .int .u64 0] 24) = wa at hb hn HW hs1 hg0 ⊢
                refine seq_call (make_c p.pp (permP p) p.g _) rfl Tryd.func21 (by kernel_rfl) (by kernel_rfl) (by rfl) (by rfl) ?_; intro K hK; rintro e w' ⟨rfl, hE⟩; refine ⟨_, rfl, (ext_below hE hs1), ?_⟩; simp only [Act.put, List.setIfInBounds_toArray, List.set_cons_zero, List.set_cons_succ]; refine hK _ _ ?_; clear hK K
                replace HW := Lib.hid (HW.out.trans hE)
                replace hb := hb.ext hE
                replace hn := hn.ext hE
                clear hE
                refine seq_store_row rfl rfl rfl (hn) (pt_info _) (by simp [ptC_size]) (ptC_one _) (by rfl) ((below_row (Below.refl _ _) hs0 _)) ?_; intro K hK; simp only [Act.put, List.setIfInBounds_toArray, List.set_cons_zero, List.set_cons_succ]; refine hK _ _ ?_; clear hK K
                refine seq_done ?_
                have hm := hn.row (ptC (makeP p.pp (permP p) p.g))
                replace hb := hb.apart (k := g) (by omega) (ptC (makeP p.pp (permP p) p.g))
                replace HW := Lib.hid (Ext.row HW.out HO.out (ptC (makeP p.pp (permP p) p.g)))
                generalize w'.setRow g (ptC (makeP p.pp (permP p) p.g)) = wf at hb hm HW ⊢
                have hpm := fun w => perm_c (makeP p.pp (permP p) p.g) w
                rw [perm_make] at hpm
                go_wp2_with fail
                replace hb := hb.drew
                replace hm := hm.drew
                replace HW := Lib.hid HW.out.drew
                refine wp_region_seq [(0, false), (2, false), (1, true), (3, true), (4, false), (5, false), (6, false), (7, false), (8, false), (9, false), (10, false), (11, false), (12, false), (13, false), (14, false), (15, false), (16, false), (17, false), (18, false), (19, false), (20, false), (21, false), (22, false), (23, false), (24, false), (25, false), (26, false), (27, false), (28, false), (29, false), (30, false), (31, false), (32, false), (33, false)] Ext (by kernel_rfl) (by kernel_rfl) Ext.refl (fun _ _ _ => Ext.trans) ?_; simp only [List.map, nth_z, nth_s]
                refine seq_load rfl rfl (fun x hx => Blk.ext (hm) hx) rfl Tryd.underlying24 (by kernel_rfl) (by rfl) ?_; intro K hK; simp only [Act.put, List.setIfInBounds_toArray, List.set_cons_zero, List.set_cons_succ]; refine hK _ ?_; clear hK K
                refine seq_load rfl rfl (fun x hx => Blk.ext (hb) hx) rfl Tryd.underlying24 (by kernel_rfl) (by rfl) ?_; intro K hK; simp only [Act.put, List.setIfInBounds_toArray, List.set_cons_zero, List.set_cons_succ]; refine hK _ ?_; clear hK K
                refine seq_call (hpm _) rfl Tryd.func23 (by kernel_rfl) (by kernel_rfl) (by rfl) (by rfl) ?_; intro K hK; rintro e w' ⟨rfl, hE⟩; refine ⟨_, rfl, hE, ?_⟩; simp only [Act.put, List.setIfInBounds_toArray, List.set_cons_zero, List.set_cons_succ]; refine hK _ _ ?_; clear hK K; replace HW := Lib.hid (HW.out.trans hE); replace hb := hb.ext hE; replace hm := hm.ext hE; clear hE
                refine seq_call (perm_c p _) rfl Tryd.func23 (by kernel_rfl) (by kernel_rfl) (by rfl) (by rfl) ?_; intro K hK; rintro e w' ⟨rfl, hE⟩; refine ⟨_, rfl, hE, ?_⟩; simp only [Act.put, List.setIfInBounds_toArray, List.set_cons_zero, List.set_cons_succ]; refine hK _ _ ?_; clear hK K; replace HW := Lib.hid (HW.out.trans hE); replace hb := hb.ext hE; replace hm := hm.ext hE; clear hE
                clear hpm
                obtain ⟨-, b5, -, -, -, b9⟩ := hb.ptf
                obtain ⟨m0, m5, m6, m7, m9⟩ := hm.made
                clear hb hm
                refine seq_value (.bool true) (by rfl) (fun x hx => by simp [go_sem, execOp, Act.eval, eql_perm, run_eqGuard_agg _ _ _ _ _ _ _ pte_guard, run_eqGuard_agg _ _ _ _ _ _ _ perm_guard]) ?_; intro K hK; simp only [Act.put, List.setIfInBounds_toArray, List.set_cons_zero, List.set_cons_succ]; refine hK _ ?_; clear hK K
                (repeat (first | (refine seq_skip (by rfl) ?_; intro K hK; simp only [Act.put, List.setIfInBounds_toArray, List.set_cons_zero, List.set_cons_succ]; refine hK _ ?_; clear hK K) | (refine seq_skipc (by rfl) ?_; intro K hK; simp only [Act.put, List.setIfInBounds_toArray, List.set_cons_zero, List.set_cons_succ]; refine hK _ ?_; clear hK K) | (refine seq_read (by rfl) (by rfl) ?_; intro K hK; go_big_quiet_op; first | go_big_quiet_on | (refine ⟨_, fun _ _ => rfl, ?_⟩; go_big_quiet_on))))
                refine seq_value (.bool true) (by rfl) (fun x hx => by have hq := ext_cell hx (m0); simp [go_sem, execOp, Act.eval, hq]) ?_; intro K hK; simp only [Act.put, List.setIfInBounds_toArray, List.set_cons_zero, List.set_cons_succ]; refine hK _ ?_; clear hK K
                (repeat (first | (refine seq_skip (by rfl) ?_; intro K hK; simp only [Act.put, List.setIfInBounds_toArray, List.set_cons_zero, List.set_cons_succ]; refine hK _ ?_; clear hK K) | (refine seq_skipc (by rfl) ?_; intro K hK; simp only [Act.put, List.setIfInBounds_toArray, List.set_cons_zero, List.set_cons_succ]; refine hK _ ?_; clear hK K) | (refine seq_read (by rfl) (by rfl) ?_; intro K hK; go_big_quiet_op; first | go_big_quiet_on | (refine ⟨_, fun _ _ => rfl, ?_⟩; go_big_quiet_on))))
                refine seq_value (.int .u64 (p.pp : Int)) (by rfl) (fun x hx => by have hq := ext_cell hx (m9); simp [go_sem, execOp, Act.eval, hq]) ?_; intro K hK; simp only [Act.put, List.setIfInBounds_toArray, List.set_cons_zero, List.set_cons_succ]; refine hK _ ?_; clear hK K
                (repeat (first | (refine seq_skip (by rfl) ?_; intro K hK; simp only [Act.put, List.setIfInBounds_toArray, List.set_cons_zero, List.set_cons_succ]; refine hK _ ?_; clear hK K) | (refine seq_skipc (by rfl) ?_; intro K hK; simp only [Act.put, List.setIfInBounds_toArray, List.set_cons_zero, List.set_cons_succ]; refine hK _ ?_; clear hK K) | (refine seq_read (by rfl) (by rfl) ?_; intro K hK; go_big_quiet_op; first | go_big_quiet_on | (refine ⟨_, fun _ _ => rfl, ?_⟩; go_big_quiet_on))))
                refine seq_value (.int .u64 (p.pp : Int)) (by rfl) (fun x hx => by have hq := ext_cell hx (b9); simp [go_sem, execOp, Act.eval, hq]) ?_; intro K hK; simp only [Act.put, List.setIfInBounds_toArray, List.set_cons_zero, List.set_cons_succ]; refine hK _ ?_; clear hK K
                (repeat (first | (refine seq_skip (by rfl) ?_; intro K hK; simp only [Act.put, List.setIfInBounds_toArray, List.set_cons_zero, List.set_cons_succ]; refine hK _ ?_; clear hK K) | (refine seq_skipc (by rfl) ?_; intro K hK; simp only [Act.put, List.setIfInBounds_toArray, List.set_cons_zero, List.set_cons_succ]; refine hK _ ?_; clear hK K) | (refine seq_read (by rfl) (by rfl) ?_; intro K hK; go_big_quiet_op; first | go_big_quiet_on | (refine ⟨_, fun _ _ => rfl, ?_⟩; go_big_quiet_on))))
                refine seq_value (.bool p.g) (by rfl) (fun x hx => by have hq := ext_cell hx (m5); simp [go_sem, execOp, Act.eval, hq]) ?_; intro K hK; simp only [Act.put, List.setIfInBounds_toArray, List.set_cons_zero, List.set_cons_succ]; refine hK _ ?_; clear hK K
                (repeat (first | (refine seq_skip (by rfl) ?_; intro K hK; simp only [Act.put, List.setIfInBounds_toArray, List.set_cons_zero, List.set_cons_succ]; refine hK _ ?_; clear hK K) | (refine seq_skipc (by rfl) ?_; intro K hK; simp only [Act.put, List.setIfInBounds_toArray, List.set_cons_zero, List.set_cons_succ]; refine hK _ ?_; clear hK K) | (refine seq_read (by rfl) (by rfl) ?_; intro K hK; go_big_quiet_op; first | go_big_quiet_on | (refine ⟨_, fun _ _ => rfl, ?_⟩; go_big_quiet_on))))
                refine seq_value (.bool p.g) (by rfl) (fun x hx => by have hq := ext_cell hx (b5); simp [go_sem, execOp, Act.eval, hq]) ?_; intro K hK; simp only [Act.put, List.setIfInBounds_toArray, List.set_cons_zero, List.set_cons_succ]; refine hK _ ?_; clear hK K
                (repeat (first | (refine seq_skip (by rfl) ?_; intro K hK; simp only [Act.put, List.setIfInBounds_toArray, List.set_cons_zero, List.set_cons_succ]; refine hK _ ?_; clear hK K) | (refine seq_skipc (by rfl) ?_; intro K hK; simp only [Act.put, List.setIfInBounds_toArray, List.set_cons_zero, List.set_cons_succ]; refine hK _ ?_; clear hK K) | (refine seq_read (by rfl) (by rfl) ?_; intro K hK; go_big_quiet_op; first | go_big_quiet_on | (refine ⟨_, fun _ _ => rfl, ?_⟩; go_big_quiet_on))))
                refine seq_value (.bool false) (by rfl) (fun x hx => by have hq := ext_cell hx (m6); simp [go_sem, execOp, Act.eval, hq]) ?_; intro K hK; simp only [Act.put, List.setIfInBounds_toArray, List.set_cons_zero, List.set_cons_succ]; refine hK _ ?_; clear hK K
                (repeat (first | (refine seq_skip (by rfl) ?_; intro K hK; simp only [Act.put, List.setIfInBounds_toArray, List.set_cons_zero, List.set_cons_succ]; refine hK _ ?_; clear hK K) | (refine seq_skipc (by rfl) ?_; intro K hK; simp only [Act.put, List.setIfInBounds_toArray, List.set_cons_zero, List.set_cons_succ]; refine hK _ ?_; clear hK K) | (refine seq_read (by rfl) (by rfl) ?_; intro K hK; go_big_quiet_op; first | go_big_quiet_on | (refine ⟨_, fun _ _ => rfl, ?_⟩; go_big_quiet_on))))
                refine seq_value (.bool false) (by rfl) (fun x hx => by have hq := ext_cell hx (m7); simp [go_sem, execOp, Act.eval, hq]) ?_; intro K hK; simp only [Act.put, List.setIfInBounds_toArray, List.set_cons_zero, List.set_cons_succ]; refine hK _ ?_; clear hK K
                (repeat (first | (refine seq_skip (by rfl) ?_; intro K hK; simp only [Act.put, List.setIfInBounds_toArray, List.set_cons_zero, List.set_cons_succ]; refine hK _ ?_; clear hK K) | (refine seq_skipc (by rfl) ?_; intro K hK; simp only [Act.put, List.setIfInBounds_toArray, List.set_cons_zero, List.set_cons_succ]; refine hK _ ?_; clear hK K) | (refine seq_read (by rfl) (by rfl) ?_; intro K hK; go_big_quiet_op; first | go_big_quiet_on | (refine ⟨_, fun _ _ => rfl, ?_⟩; go_big_quiet_on))))
                refine seq_done ?_
                clear b5 b9 m0 m5 m6 m7 m9
                go_wp2
                go_ret
                exact ⟨rfl, HE.out.trans HW.out⟩
            · have hn := Blk.new wd 24 #[.bool false, .bool false, .bool false, .bool false, .bool false, .bool false, .bool false, .bool false, .int .u64 0, .int .u64 0, .int .u64 0]
              have hlt := hb.lt
              replace hb := hb.alloc (.cells #[.bool false, .bool false, .bool false, .bool false, .bool false, .bool false, .bool false, .bool false, .int .u64 0, .int .u64 0, .int .u64 0] 24)
              obtain ⟨g, hg⟩ : ∃ g, g = wd.heap.size := ⟨_, rfl⟩
              have hs1 : B ≤ (wd.alloc (.cells #[.bool false, .bool false, .bool false, .bool false, .bool false, .bool false, .bool false, .bool false, .int .u64 0, .int .u64 0, .int .u64 0] 24)).heap.size := by simp; omega
              have HO := Lib.hid (show _ ≤ g from hg ▸ HW.out.size)
              replace HW := Lib.hid (HW.out.alloc (.cells #[.bool false, .bool false, .bool false, .bool false, .bool false, .bool false, .bool false, .bool false, .int .u64 0, .int .u64 0, .int .u64 0] 24))
              refine seq_run (.pointer (some ⟨(wd).heap.size, 0, none⟩)) ((wd).alloc (.cells #[.bool false, .bool false, .bool false, .bool false, .bool false, .bool false, .bool false, .bool false, .int .u64 0, .int .u64 0, .int .u64 0] 24)) (by rfl) ?_ ((Below.refl _ _).alloc hs0 _) ?_; (simp [go_sem, execOp, Act.eval]); intro K hK; simp only [Act.put, List.setIfInBounds_toArray, List.set_cons_zero, List.set_cons_succ]; refine hK _ _ ?_; clear hK K
              rw [← hg] at hn hlt hs0 ⊢
              clear hg
              refine seq_done ?_
              generalize wd.alloc (.cells #[.bool false, .bool false, .bool false, .bool false, .bool false, .bool false, .bool false, .bool false, .int .u64 0, .int .u64 0, .int .u64 0] 24) = wa at hb hn HW hs1 ⊢
              refine seq_call (perm_c p _) rfl Tryd.func23 (by kernel_rfl) (by kernel_rfl) (by rfl) (by rfl) ?_; intro K hK; rintro e w' ⟨rfl, hE⟩; refine ⟨_, rfl, (ext_below hE hs1), ?_⟩; simp only [Act.put, List.setIfInBounds_toArray, List.set_cons_zero, List.set_cons_succ]; refine hK _ _ ?_; clear hK K
              replace HW := Lib.hid (HW.out.trans hE)
              replace hb := hb.ext hE
              replace hn := hn.ext hE
              replace hs1 := Nat.le_trans hs1 hE.size
              clear hE
              refine seq_call (make_c p.pp (permP p) p.g _) rfl Tryd.func21 (by kernel_rfl) (by kernel_rfl) (by rfl) (by rfl) ?_; intro K hK; rintro e w' ⟨rfl, hE⟩; refine ⟨_, rfl, (ext_below hE hs1), ?_⟩; simp only [Act.put, List.setIfInBounds_toArray, List.set_cons_zero, List.set_cons_succ]; refine hK _ _ ?_; clear hK K
              replace HW := Lib.hid (HW.out.trans hE)
              replace hb := hb.ext hE
              replace hn := hn.ext hE
              clear hE
              refine seq_store_row rfl rfl rfl (hn) (pt_info _) (by simp [ptC_size]) (ptC_one _) (by rfl) ((below_row (Below.refl _ _) hs0 _)) ?_; intro K hK; simp only [Act.put, List.setIfInBounds_toArray, List.set_cons_zero, List.set_cons_succ]; refine hK _ _ ?_; clear hK K
              refine seq_done ?_
              have hm := hn.row (ptC (makeP p.pp (permP p) p.g))
              replace hb := hb.apart (k := g) (by omega) (ptC (makeP p.pp (permP p) p.g))
              replace HW := Lib.hid (Ext.row HW.out HO.out (ptC (makeP p.pp (permP p) p.g)))
              generalize w'.setRow g (ptC (makeP p.pp (permP p) p.g)) = wf at hb hm HW ⊢
              have hpm := fun w => perm_c (makeP p.pp (permP p) p.g) w
              rw [perm_make] at hpm
              go_wp2_with fail
              replace hb := hb.drew
              replace hm := hm.drew
              replace HW := Lib.hid HW.out.drew
              refine wp_region_seq [(0, false), (2, false), (1, true), (3, true), (4, false), (5, false), (6, false), (7, false), (8, false), (9, false), (10, false), (11, false), (12, false), (13, false), (14, false), (15, false), (16, false), (17, false), (18, false), (19, false), (20, false), (21, false), (22, false), (23, false), (24, false), (25, false), (26, false), (27, false), (28, false), (29, false), (30, false), (31, false), (32, false), (33, false)] Ext (by kernel_rfl) (by kernel_rfl) Ext.refl (fun _ _ _ => Ext.trans) ?_; simp only [List.map, nth_z, nth_s]
              refine seq_load rfl rfl (fun x hx => Blk.ext (hm) hx) rfl Tryd.underlying24 (by kernel_rfl) (by rfl) ?_; intro K hK; simp only [Act.put, List.setIfInBounds_toArray, List.set_cons_zero, List.set_cons_succ]; refine hK _ ?_; clear hK K
              refine seq_load rfl rfl (fun x hx => Blk.ext (hb) hx) rfl Tryd.underlying24 (by kernel_rfl) (by rfl) ?_; intro K hK; simp only [Act.put, List.setIfInBounds_toArray, List.set_cons_zero, List.set_cons_succ]; refine hK _ ?_; clear hK K
              refine seq_call (hpm _) rfl Tryd.func23 (by kernel_rfl) (by kernel_rfl) (by rfl) (by rfl) ?_; intro K hK; rintro e w' ⟨rfl, hE⟩; refine ⟨_, rfl, hE, ?_⟩; simp only [Act.put, List.setIfInBounds_toArray, List.set_cons_zero, List.set_cons_succ]; refine hK _ _ ?_; clear hK K; replace HW := Lib.hid (HW.out.trans hE); replace hb := hb.ext hE; replace hm := hm.ext hE; clear hE
              refine seq_call (perm_c p _) rfl Tryd.func23 (by kernel_rfl) (by kernel_rfl) (by rfl) (by rfl) ?_; intro K hK; rintro e w' ⟨rfl, hE⟩; refine ⟨_, rfl, hE, ?_⟩; simp only [Act.put, List.setIfInBounds_toArray, List.set_cons_zero, List.set_cons_succ]; refine hK _ _ ?_; clear hK K; replace HW := Lib.hid (HW.out.trans hE); replace hb := hb.ext hE; replace hm := hm.ext hE; clear hE
              clear hpm
              obtain ⟨-, b5, -, -, -, b9⟩ := hb.ptf
              obtain ⟨m0, m5, m6, m7, m9⟩ := hm.made
              clear hb hm
              refine seq_value (.bool true) (by rfl) (fun x hx => by simp [go_sem, execOp, Act.eval, eql_perm, run_eqGuard_agg _ _ _ _ _ _ _ pte_guard, run_eqGuard_agg _ _ _ _ _ _ _ perm_guard]) ?_; intro K hK; simp only [Act.put, List.setIfInBounds_toArray, List.set_cons_zero, List.set_cons_succ]; refine hK _ ?_; clear hK K
              (repeat (first | (refine seq_skip (by rfl) ?_; intro K hK; simp only [Act.put, List.setIfInBounds_toArray, List.set_cons_zero, List.set_cons_succ]; refine hK _ ?_; clear hK K) | (refine seq_skipc (by rfl) ?_; intro K hK; simp only [Act.put, List.setIfInBounds_toArray, List.set_cons_zero, List.set_cons_succ]; refine hK _ ?_; clear hK K) | (refine seq_read (by rfl) (by rfl) ?_; intro K hK; go_big_quiet_op; first | go_big_quiet_on | (refine ⟨_, fun _ _ => rfl, ?_⟩; go_big_quiet_on))))
              refine seq_value (.bool true) (by rfl) (fun x hx => by have hq := ext_cell hx (m0); simp [go_sem, execOp, Act.eval, hq]) ?_; intro K hK; simp only [Act.put, List.setIfInBounds_toArray, List.set_cons_zero, List.set_cons_succ]; refine hK _ ?_; clear hK K
              (repeat (first | (refine seq_skip (by rfl) ?_; intro K hK; simp only [Act.put, List.setIfInBounds_toArray, List.set_cons_zero, List.set_cons_succ]; refine hK _ ?_; clear hK K) | (refine seq_skipc (by rfl) ?_; intro K hK; simp only [Act.put, List.setIfInBounds_toArray, List.set_cons_zero, List.set_cons_succ]; refine hK _ ?_; clear hK K) | (refine seq_read (by rfl) (by rfl) ?_; intro K hK; go_big_quiet_op; first | go_big_quiet_on | (refine ⟨_, fun _ _ => rfl, ?_⟩; go_big_quiet_on))))
              refine seq_value (.int .u64 (p.pp : Int)) (by rfl) (fun x hx => by have hq := ext_cell hx (m9); simp [go_sem, execOp, Act.eval, hq]) ?_; intro K hK; simp only [Act.put, List.setIfInBounds_toArray, List.set_cons_zero, List.set_cons_succ]; refine hK _ ?_; clear hK K
              (repeat (first | (refine seq_skip (by rfl) ?_; intro K hK; simp only [Act.put, List.setIfInBounds_toArray, List.set_cons_zero, List.set_cons_succ]; refine hK _ ?_; clear hK K) | (refine seq_skipc (by rfl) ?_; intro K hK; simp only [Act.put, List.setIfInBounds_toArray, List.set_cons_zero, List.set_cons_succ]; refine hK _ ?_; clear hK K) | (refine seq_read (by rfl) (by rfl) ?_; intro K hK; go_big_quiet_op; first | go_big_quiet_on | (refine ⟨_, fun _ _ => rfl, ?_⟩; go_big_quiet_on))))
              refine seq_value (.int .u64 (p.pp : Int)) (by rfl) (fun x hx => by have hq := ext_cell hx (b9); simp [go_sem, execOp, Act.eval, hq]) ?_; intro K hK; simp only [Act.put, List.setIfInBounds_toArray, List.set_cons_zero, List.set_cons_succ]; refine hK _ ?_; clear hK K
              (repeat (first | (refine seq_skip (by rfl) ?_; intro K hK; simp only [Act.put, List.setIfInBounds_toArray, List.set_cons_zero, List.set_cons_succ]; refine hK _ ?_; clear hK K) | (refine seq_skipc (by rfl) ?_; intro K hK; simp only [Act.put, List.setIfInBounds_toArray, List.set_cons_zero, List.set_cons_succ]; refine hK _ ?_; clear hK K) | (refine seq_read (by rfl) (by rfl) ?_; intro K hK; go_big_quiet_op; first | go_big_quiet_on | (refine ⟨_, fun _ _ => rfl, ?_⟩; go_big_quiet_on))))
              refine seq_value (.bool p.g) (by rfl) (fun x hx => by have hq := ext_cell hx (m5); simp [go_sem, execOp, Act.eval, hq]) ?_; intro K hK; simp only [Act.put, List.setIfInBounds_toArray, List.set_cons_zero, List.set_cons_succ]; refine hK _ ?_; clear hK K
              (repeat (first | (refine seq_skip (by rfl) ?_; intro K hK; simp only [Act.put, List.setIfInBounds_toArray, List.set_cons_zero, List.set_cons_succ]; refine hK _ ?_; clear hK K) | (refine seq_skipc (by rfl) ?_; intro K hK; simp only [Act.put, List.setIfInBounds_toArray, List.set_cons_zero, List.set_cons_succ]; refine hK _ ?_; clear hK K) | (refine seq_read (by rfl) (by rfl) ?_; intro K hK; go_big_quiet_op; first | go_big_quiet_on | (refine ⟨_, fun _ _ => rfl, ?_⟩; go_big_quiet_on))))
              refine seq_value (.bool p.g) (by rfl) (fun x hx => by have hq := ext_cell hx (b5); simp [go_sem, execOp, Act.eval, hq]) ?_; intro K hK; simp only [Act.put, List.setIfInBounds_toArray, List.set_cons_zero, List.set_cons_succ]; refine hK _ ?_; clear hK K
              (repeat (first | (refine seq_skip (by rfl) ?_; intro K hK; simp only [Act.put, List.setIfInBounds_toArray, List.set_cons_zero, List.set_cons_succ]; refine hK _ ?_; clear hK K) | (refine seq_skipc (by rfl) ?_; intro K hK; simp only [Act.put, List.setIfInBounds_toArray, List.set_cons_zero, List.set_cons_succ]; refine hK _ ?_; clear hK K) | (refine seq_read (by rfl) (by rfl) ?_; intro K hK; go_big_quiet_op; first | go_big_quiet_on | (refine ⟨_, fun _ _ => rfl, ?_⟩; go_big_quiet_on))))
              refine seq_value (.bool false) (by rfl) (fun x hx => by have hq := ext_cell hx (m6); simp [go_sem, execOp, Act.eval, hq]) ?_; intro K hK; simp only [Act.put, List.setIfInBounds_toArray, List.set_cons_zero, List.set_cons_succ]; refine hK _ ?_; clear hK K
              (repeat (first | (refine seq_skip (by rfl) ?_; intro K hK; simp only [Act.put, List.setIfInBounds_toArray, List.set_cons_zero, List.set_cons_succ]; refine hK _ ?_; clear hK K) | (refine seq_skipc (by rfl) ?_; intro K hK; simp only [Act.put, List.setIfInBounds_toArray, List.set_cons_zero, List.set_cons_succ]; refine hK _ ?_; clear hK K) | (refine seq_read (by rfl) (by rfl) ?_; intro K hK; go_big_quiet_op; first | go_big_quiet_on | (refine ⟨_, fun _ _ => rfl, ?_⟩; go_big_quiet_on))))
              refine seq_value (.bool false) (by rfl) (fun x hx => by have hq := ext_cell hx (m7); simp [go_sem, execOp, Act.eval, hq]) ?_; intro K hK; simp only [Act.put, List.setIfInBounds_toArray, List.set_cons_zero, List.set_cons_succ]; refine hK _ ?_; clear hK K
              (repeat (first | (refine seq_skip (by rfl) ?_; intro K hK; simp only [Act.put, List.setIfInBounds_toArray, List.set_cons_zero, List.set_cons_succ]; refine hK _ ?_; clear hK K) | (refine seq_skipc (by rfl) ?_; intro K hK; simp only [Act.put, List.setIfInBounds_toArray, List.set_cons_zero, List.set_cons_succ]; refine hK _ ?_; clear hK K) | (refine seq_read (by rfl) (by rfl) ?_; intro K hK; go_big_quiet_op; first | go_big_quiet_on | (refine ⟨_, fun _ _ => rfl, ?_⟩; go_big_quiet_on))))
              refine seq_done ?_
              clear b5 b9 m0 m5 m6 m7 m9
              go_wp2
              go_ret
              exact ⟨rfl, HE.out.trans HW.out⟩
  · (repeat (first | (refine seq_skip (by rfl) ?_; intro K hK; simp only [Act.put, List.setIfInBounds_toArray, List.set_cons_zero, List.set_cons_succ]; refine hK _ ?_; clear hK K) | (refine seq_skipc (by rfl) ?_; intro K hK; simp only [Act.put, List.setIfInBounds_toArray, List.set_cons_zero, List.set_cons_succ]; refine hK _ ?_; clear hK K) | (refine seq_read (by rfl) (by rfl) ?_; intro K hK; go_big_quiet_op; first | go_big_quiet_on | (refine ⟨_, fun _ _ => rfl, ?_⟩; go_big_quiet_on))))
    have b0 := hb.ptf.1
    rw [hv] at b0
    refine seq_value (.bool true) (by rfl) (fun x hx => by have hq := ext_cell hx (b0); simp [go_sem, execOp, Act.eval, hq]) ?_; intro K hK; simp only [Act.put, List.setIfInBounds_toArray, List.set_cons_zero, List.set_cons_succ]; refine hK _ ?_; clear hK K
    clear b0 hv
    refine seq_load rfl rfl (fun x hx => Blk.ext (hb) hx) rfl Tryd.underlying24 (by kernel_rfl) (by rfl) ?_; intro K hK; simp only [Act.put, List.setIfInBounds_toArray, List.set_cons_zero, List.set_cons_succ]; refine hK _ ?_; clear hK K
    refine seq_call (hleaf _) rfl Tryd.func15 (by kernel_rfl) (by kernel_rfl) (by rfl) (by rfl) ?_; intro K hK; rintro e w' ⟨rfl, hE⟩; refine ⟨_, rfl, hE, ?_⟩; simp only [Act.put, List.setIfInBounds_toArray, List.set_cons_zero, List.set_cons_succ]; refine hK _ _ ?_; clear hK K; replace HE := Lib.hid (HE.out.trans hE); replace hb := hb.ext hE; replace hc := hc.ext hE; replace HT := Lib.hid (HT.out.ext hE); clear hE
    (repeat (first | (refine seq_skip (by rfl) ?_; intro K hK; simp only [Act.put, List.setIfInBounds_toArray, List.set_cons_zero, List.set_cons_succ]; refine hK _ ?_; clear hK K) | (refine seq_skipc (by rfl) ?_; intro K hK; simp only [Act.put, List.setIfInBounds_toArray, List.set_cons_zero, List.set_cons_succ]; refine hK _ ?_; clear hK K) | (refine seq_read (by rfl) (by rfl) ?_; intro K hK; go_big_quiet_op; first | go_big_quiet_on | (refine ⟨_, fun _ _ => rfl, ?_⟩; go_big_quiet_on))))
    refine seq_load rfl rfl (fun x hx => Blk.ext (hb) hx) rfl Tryd.underlying24 (by kernel_rfl) (by rfl) ?_; intro K hK; simp only [Act.put, List.setIfInBounds_toArray, List.set_cons_zero, List.set_cons_succ]; refine hK _ ?_; clear hK K
    refine seq_call (hlink _) rfl Tryd.func17 (by kernel_rfl) (by kernel_rfl) (by rfl) (by rfl) ?_; intro K hK; rintro e w' ⟨rfl, hE⟩; refine ⟨_, rfl, hE, ?_⟩; simp only [Act.put, List.setIfInBounds_toArray, List.set_cons_zero, List.set_cons_succ]; refine hK _ _ ?_; clear hK K; replace HE := Lib.hid (HE.out.trans hE); replace hb := hb.ext hE; replace hc := hc.ext hE; replace HT := Lib.hid (HT.out.ext hE); clear hE
    (repeat (first | (refine seq_skip (by rfl) ?_; intro K hK; simp only [Act.put, List.setIfInBounds_toArray, List.set_cons_zero, List.set_cons_succ]; refine hK _ ?_; clear hK K) | (refine seq_skipc (by rfl) ?_; intro K hK; simp only [Act.put, List.setIfInBounds_toArray, List.set_cons_zero, List.set_cons_succ]; refine hK _ ?_; clear hK K) | (refine seq_read (by rfl) (by rfl) ?_; intro K hK; go_big_quiet_op; first | go_big_quiet_on | (refine ⟨_, fun _ _ => rfl, ?_⟩; go_big_quiet_on))))
    refine seq_done ?_
    go_wp2_with fail
    go_loopw [5] (fun a W => ∃ l : Int, 1 ≤ l ∧ l ≤ 3 ∧ a = .int .i64 l ∧ Ext w' W) (fun a _ => 3 - (intOf a).toNat)
    case atStart => exact ⟨1, by omega, by omega, rfl, Ext.refl _⟩
    case round =>
      obtain ⟨l, hl1, hl3, rfl, hEl⟩ := hrel
      replace hb := hb.ext hEl
      replace hc := hc.ext hEl
      replace HT := Lib.hid (HT.out.ext hEl)
      have HW := Lib.hid hEl
      clear hEl
      obtain rfl | rfl | rfl : l = 1 ∨ l = 2 ∨ l = 3 := by omega
      · have hbd := hbad 1 (by decide) (by decide)
        cases hB1 : badB p 1
        · rw [hB1] at hbd
          go_wp2_with (refine wpList_load_blk (by rfl) 24 _ rfl rfl (by assumption) Tryd.underlying24 rfl (by kernel_rfl) ?_)
          refine (hbd _ HT.out).mono ?_
          rintro e w5 ⟨rfl, hE⟩
          replace HW := Lib.hid (HW.out.trans hE)
          replace hb := hb.ext hE
          replace hc := hc.ext hE
          replace HT := Lib.hid (HT.out.ext hE)
          clear hE
          clear hbd
          have hbd := hbad 0 (by decide) (by decide)
          cases hB0 : badB p 0
          · rw [hB0] at hbd
            go_wp2_with (refine wpList_load_blk (by rfl) 24 _ rfl rfl (by assumption) Tryd.underlying24 rfl (by kernel_rfl) ?_)
            refine (hbd _ HT.out).mono ?_
            rintro e w5 ⟨rfl, hE⟩
            replace HW := Lib.hid (HW.out.trans hE)
            replace hb := hb.ext hE
            replace hc := hc.ext hE
            replace HT := Lib.hid (HT.out.ext hE)
            clear hE
            clear hbd
            go_wp2
            go_roundw
            case rel => exact ⟨2, by omega, by omega, rfl, HW.out⟩
            case measure => simp [intOf]
          · rw [hB0] at hbd
            have hk := f10.out hB1 hB0
            first
              | (cases hk; done)
              | skip
                go_wp2_with (refine wpList_load_blk (by rfl) 24 _ rfl rfl (by assumption) Tryd.underlying24 rfl (by kernel_rfl) ?_)
                refine (hbd _ HT.out).mono ?_
                rintro e w5 ⟨rfl, hE⟩
                replace HW := Lib.hid (HW.out.trans hE)
                replace hb := hb.ext hE
                replace hc := hc.ext hE
                replace HT := Lib.hid (HT.out.ext hE)
                clear hE
                clear hbd hk
                go_wp2_with (refine wpList_load_blk (by rfl) 24 _ rfl rfl (by assumption) Tryd.underlying24 rfl (by kernel_rfl) ?_)
                refine (hlink _).mono ?_
                rintro e w5 ⟨rfl, hE⟩
                replace HW := Lib.hid (HW.out.trans hE)
                replace hb := hb.ext hE
                replace hc := hc.ext hE
                replace HT := Lib.hid (HT.out.ext hE)
                clear hE
                go_wp2
                go_roundw
                case rel => exact ⟨2, by omega, by omega, rfl, HW.out⟩
                case measure => simp [intOf]
        · rw [hB1] at hbd
          go_wp2_with (refine wpList_load_blk (by rfl) 24 _ rfl rfl (by assumption) Tryd.underlying24 rfl (by kernel_rfl) ?_)
          refine (hbd _ HT.out).mono ?_
          rintro e w5 ⟨rfl, hE⟩
          replace HW := Lib.hid (HW.out.trans hE)
          replace hb := hb.ext hE
          replace hc := hc.ext hE
          replace HT := Lib.hid (HT.out.ext hE)
          clear hE
          clear hbd
          go_wp2
          go_roundw
          case rel => exact ⟨2, by omega, by omega, rfl, HW.out⟩
          case measure => simp [intOf]
      · have hbd := hbad 2 (by decide) (by decide)
        cases hB2 : badB p 2
        · rw [hB2] at hbd
          go_wp2_with (refine wpList_load_blk (by rfl) 24 _ rfl rfl (by assumption) Tryd.underlying24 rfl (by kernel_rfl) ?_)
          refine (hbd _ HT.out).mono ?_
          rintro e w5 ⟨rfl, hE⟩
          replace HW := Lib.hid (HW.out.trans hE)
          replace hb := hb.ext hE
          replace hc := hc.ext hE
          replace HT := Lib.hid (HT.out.ext hE)
          clear hE
          clear hbd
          have hbd := hbad 1 (by decide) (by decide)
          rw [f21.out hB2] at hbd
          go_wp2_with (refine wpList_load_blk (by rfl) 24 _ rfl rfl (by assumption) Tryd.underlying24 rfl (by kernel_rfl) ?_)
          refine (hbd _ HT.out).mono ?_
          rintro e w5 ⟨rfl, hE⟩
          replace HW := Lib.hid (HW.out.trans hE)
          replace hb := hb.ext hE
          replace hc := hc.ext hE
          replace HT := Lib.hid (HT.out.ext hE)
          clear hE
          clear hbd
          go_wp2
          go_roundw
          case rel => exact ⟨3, by omega, by omega, rfl, HW.out⟩
          case measure => simp [intOf]
        · rw [hB2] at hbd
          go_wp2_with (refine wpList_load_blk (by rfl) 24 _ rfl rfl (by assumption) Tryd.underlying24 rfl (by kernel_rfl) ?_)
          refine (hbd _ HT.out).mono ?_
          rintro e w5 ⟨rfl, hE⟩
          replace HW := Lib.hid (HW.out.trans hE)
          replace hb := hb.ext hE
          replace hc := hc.ext hE
          replace HT := Lib.hid (HT.out.ext hE)
          clear hE
          clear hbd
          go_wp2
          go_roundw
          case rel => exact ⟨3, by omega, by omega, rfl, HW.out⟩
          case measure => simp [intOf]
      · have hbx := hb
        rw [ptC_eq] at hbx
        obtain ⟨b0, b1, b2, b3, b4, b5, b6, b7, b8, b9, b10⟩ := hbx.pt
        obtain ⟨-, c5, c6, c7, c8, -⟩ := hc.ptf
        have hlp := hb.lt
        have hlq := hc.lt
        clear hbx hlink
        go_wp2
        have hz := Blk.new wr 24 (ptC ⟨p.v, p.r, p.w, p.x, p.u, q.g, q.a, q.d, q.rs, p.pp, p.hi⟩)
        have hE := (Ext.refl wr).alloc (.cells (ptC ⟨p.v, p.r, p.w, p.x, p.u, q.g, q.a, q.d, q.rs, p.pp, p.hi⟩) 24)
        replace HW := Lib.hid (HW.out.trans hE)
        replace hb := hb.ext hE
        replace HT := Lib.hid (HT.out.ext hE)
        clear hE b0 b1 b2 b3 b4 b5 b6 b7 b8 b9 b10 c5 c6 c7 c8 hlp hlq hc
        have hX : Pt.ok ⟨p.v, p.r, p.w, p.x, p.u, q.g, q.a, q.d, q.rs, p.pp, p.hi⟩ := ⟨hq.1, hp.2.1, hp.2.2⟩
        have hbadx := bad_c ⟨p.v, p.r, p.w, p.x, p.u, q.g, q.a, q.d, q.rs, p.pp, p.hi⟩ hX
        generalize hW2 : wr.alloc (.cells (ptC ⟨p.v, p.r, p.w, p.x, p.u, q.g, q.a, q.d, q.rs, p.pp, p.hi⟩) 24) = W2 at hz hb HT HW
        rw [ptC_def] at hW2
        rw [hW2]
        clear hW2
        clear hX
        generalize (⟨p.v, p.r, p.w, p.x, p.u, q.g, q.a, q.d, q.rs, p.pp, p.hi⟩ : Pt) = X at hz hbadx flf
        go_loopw [7] (fun a W => ∃ l : Int, 0 ≤ l ∧ l ≤ 3 ∧ a = .int .i64 l ∧ Ext W2 W) (fun a _ => 3 - (intOf a).toNat)
        case atStart => exact ⟨0, by omega, by omega, rfl, Ext.refl _⟩
        case round =>
          obtain ⟨l, hl1, hl3, rfl, hEl⟩ := hrel
          replace hb := hb.ext hEl
          replace hz := hz.ext hEl
          replace HT := Lib.hid (HT.out.ext hEl)
          have HW0 := HW
          replace HW := Lib.hid hEl
          clear hEl
          by_cases hlt : l < 3
          · go_wp2_with fail
            replace hb := hb.drew
            replace hz := hz.drew
            replace HT := Lib.hid (HT.out.ext (Ext.refl _).drew)
            replace HW := Lib.hid HW.out.drew
            refine wp_region_seq [(0, false), (1, true), (2, false), (3, false), (4, false), (6, false), (7, false), (5, true), (8, true), (9, false), (10, false)] Ext (by kernel_rfl) (by kernel_rfl) Ext.refl (fun _ _ _ => Ext.trans) ?_; simp only [List.map, nth_z, nth_s]
            refine seq_load rfl rfl (fun x hx => Blk.ext (hb) hx) rfl Tryd.underlying24 (by kernel_rfl) (by rfl) ?_; intro K hK; simp only [Act.put, List.setIfInBounds_toArray, List.set_cons_zero, List.set_cons_succ]; refine hK _ ?_; clear hK K
            refine seq_call (hleaf _) rfl Tryd.func15 (by kernel_rfl) (by kernel_rfl) (by rfl) (by rfl) ?_; intro K hK; rintro e w' ⟨rfl, hE⟩; refine ⟨_, rfl, hE, ?_⟩; simp only [Act.put, List.setIfInBounds_toArray, List.set_cons_zero, List.set_cons_succ]; refine hK _ _ ?_; clear hK K; replace HW := Lib.hid (HW.out.trans hE); replace hb := hb.ext hE; replace hz := hz.ext hE; replace HT := Lib.hid (HT.out.ext hE); clear hE
            (repeat (first | (refine seq_skip (by rfl) ?_; intro K hK; simp only [Act.put, List.setIfInBounds_toArray, List.set_cons_zero, List.set_cons_succ]; refine hK _ ?_; clear hK K) | (refine seq_skipc (by rfl) ?_; intro K hK; simp only [Act.put, List.setIfInBounds_toArray, List.set_cons_zero, List.set_cons_succ]; refine hK _ ?_; clear hK K) | (refine seq_read (by rfl) (by rfl) ?_; intro K hK; go_big_quiet_op; first | go_big_quiet_on | (refine ⟨_, fun _ _ => rfl, ?_⟩; go_big_quiet_on))))
            first
              | refine seq_done ?_
              | skip
                have hbp := hbad l (by omega) (by omega)
                have hbq := hbadx l (by omega) (by omega)
                rw [flf.out trivial l] at hbq
                generalize badB p l = B at hbp hbq
                refine seq_load rfl rfl (fun x hx => Blk.ext (hb) hx) rfl Tryd.underlying24 (by kernel_rfl) (by rfl) ?_; intro K hK; simp only [Act.put, List.setIfInBounds_toArray, List.set_cons_zero, List.set_cons_succ]; refine hK _ ?_; clear hK K
                (repeat (first | (refine seq_skip (by rfl) ?_; intro K hK; simp only [Act.put, List.setIfInBounds_toArray, List.set_cons_zero, List.set_cons_succ]; refine hK _ ?_; clear hK K) | (refine seq_skipc (by rfl) ?_; intro K hK; simp only [Act.put, List.setIfInBounds_toArray, List.set_cons_zero, List.set_cons_succ]; refine hK _ ?_; clear hK K) | (refine seq_read (by rfl) (by rfl) ?_; intro K hK; go_big_quiet_op; first | go_big_quiet_on | (refine ⟨_, fun _ _ => rfl, ?_⟩; go_big_quiet_on))))
                refine seq_load rfl rfl (fun x hx => Blk.ext (hz) hx) rfl Tryd.underlying24 (by kernel_rfl) (by rfl) ?_; intro K hK; simp only [Act.put, List.setIfInBounds_toArray, List.set_cons_zero, List.set_cons_succ]; refine hK _ ?_; clear hK K
                (repeat (first | (refine seq_skip (by rfl) ?_; intro K hK; simp only [Act.put, List.setIfInBounds_toArray, List.set_cons_zero, List.set_cons_succ]; refine hK _ ?_; clear hK K) | (refine seq_skipc (by rfl) ?_; intro K hK; simp only [Act.put, List.setIfInBounds_toArray, List.set_cons_zero, List.set_cons_succ]; refine hK _ ?_; clear hK K) | (refine seq_read (by rfl) (by rfl) ?_; intro K hK; go_big_quiet_op; first | go_big_quiet_on | (refine ⟨_, fun _ _ => rfl, ?_⟩; go_big_quiet_on))))
                refine seq_call (hbp _ HT.out) rfl Tryd.func19 (by kernel_rfl) (by kernel_rfl) (by rfl) (by rfl) ?_; intro K hK; rintro e w' ⟨rfl, hE⟩; refine ⟨_, rfl, hE, ?_⟩; simp only [Act.put, List.setIfInBounds_toArray, List.set_cons_zero, List.set_cons_succ]; refine hK _ _ ?_; clear hK K; replace HW := Lib.hid (HW.out.trans hE); replace hb := hb.ext hE; replace hz := hz.ext hE; replace HT := Lib.hid (HT.out.ext hE); clear hE
                refine seq_call (hbq _ HT.out) rfl Tryd.func19 (by kernel_rfl) (by kernel_rfl) (by rfl) (by rfl) ?_; intro K hK; rintro e w' ⟨rfl, hE⟩; refine ⟨_, rfl, hE, ?_⟩; simp only [Act.put, List.setIfInBounds_toArray, List.set_cons_zero, List.set_cons_succ]; refine hK _ _ ?_; clear hK K; replace HW := Lib.hid (HW.out.trans hE); replace hb := hb.ext hE; replace hz := hz.ext hE; replace HT := Lib.hid (HT.out.ext hE); clear hE
                clear hbp hbq
                (repeat (first | (refine seq_skip (by rfl) ?_; intro K hK; simp only [Act.put, List.setIfInBounds_toArray, List.set_cons_zero, List.set_cons_succ]; refine hK _ ?_; clear hK K) | (refine seq_skipc (by rfl) ?_; intro K hK; simp only [Act.put, List.setIfInBounds_toArray, List.set_cons_zero, List.set_cons_succ]; refine hK _ ?_; clear hK K) | (refine seq_read (by rfl) (by rfl) ?_; intro K hK; go_big_quiet_op; first | go_big_quiet_on | (refine ⟨_, fun _ _ => rfl, ?_⟩; go_big_quiet_on))))
                refine seq_done ?_
            go_wp2
            go_roundw
            case rel => exact ⟨l + 1, by omega, by omega, by go_num, HW.out⟩
            case measure => simp [intOf]; omega
          · obtain rfl : l = 3 := by omega
            clear hbad hbadx hleaf flf f10 f21 HT hz hlt hl1 hl3
            go_wp2_with fail
            replace hb := hb.drew
            have hlp : w.heap.size < wr.heap.size := hb.lt
            replace HW := Lib.hid (HW0.out.trans HW.out.drew)
            clear HW0
            obtain ⟨-, b5, -, -, -, b9⟩ := hb.ptf
            refine wp_region_fork2 [(0, false), (1, false), (2, false), (4, false), (5, false)] 3 [] 6 [(7, true), (8, true)] 7 [(6, true), (8, true)] 7 [(3, true), (6, true), (8, true)] (Below wr.heap.size) (by kernel_rfl) (by kernel_rfl) (Below.refl _) (fun _ _ _ => Below.trans) ?_
            simp only [List.map, nth_z, nth_s]
            (repeat (first | (refine seq_skip (by rfl) ?_; intro K hK; simp only [Act.put, List.setIfInBounds_toArray, List.set_cons_zero, List.set_cons_succ]; refine hK _ ?_; clear hK K) | (refine seq_skipc (by rfl) ?_; intro K hK; simp only [Act.put, List.setIfInBounds_toArray, List.set_cons_zero, List.set_cons_succ]; refine hK _ ?_; clear hK K) | (refine seq_read (by rfl) (by rfl) ?_; intro K hK; go_big_quiet_op; first | go_big_quiet_on | (refine ⟨_, fun _ _ => rfl, ?_⟩; go_big_quiet_on))))
            refine seq_value (.int .u64 (p.pp : Int)) (by rfl) (fun x hx => by have hq := (Below.cell hx (p := ⟨w.heap.size, 9, none⟩) (by simp; omega)).trans (b9); simp [go_sem, execOp, Act.eval, hq]) ?_; intro K hK; simp only [Act.put, List.setIfInBounds_toArray, List.set_cons_zero, List.set_cons_succ]; refine hK _ ?_; clear hK K
            refine seq_load rfl rfl (fun x hx => Blk.lower (hb) hx (by omega)) rfl Tryd.underlying24 (by kernel_rfl) (by rfl) ?_; intro K hK; simp only [Act.put, List.setIfInBounds_toArray, List.set_cons_zero, List.set_cons_succ]; refine hK _ ?_; clear hK K
            (repeat (first | (refine seq_skip (by rfl) ?_; intro K hK; simp only [Act.put, List.setIfInBounds_toArray, List.set_cons_zero, List.set_cons_succ]; refine hK _ ?_; clear hK K) | (refine seq_skipc (by rfl) ?_; intro K hK; simp only [Act.put, List.setIfInBounds_toArray, List.set_cons_zero, List.set_cons_succ]; refine hK _ ?_; clear hK K) | (refine seq_read (by rfl) (by rfl) ?_; intro K hK; go_big_quiet_op; first | go_big_quiet_on | (refine ⟨_, fun _ _ => rfl, ?_⟩; go_big_quiet_on))))
            refine seq_value (.bool p.g) (by rfl) (fun x hx => by have hq := (Below.cell hx (p := ⟨w.heap.size, 5, none⟩) (by simp; omega)).trans (b5); simp [go_sem, execOp, Act.eval, hq]) ?_; intro K hK; simp only [Act.put, List.setIfInBounds_toArray, List.set_cons_zero, List.set_cons_succ]; refine hK _ ?_; clear hK K
            clear b5 b9
            refine seq_done ?_
            have hw0 : wr.drew.heap.size = wr.heap.size := rfl
            have hs0 : wr.heap.size ≤ wr.drew.heap.size := Nat.le_refl _
            generalize wr.drew = wd at hb HW hw0 hs0 ⊢
            generalize hBB : wr.heap.size = B at hlp hs0 hw0 ⊢
            refine ⟨?_, ?_⟩
            · refine seq_call (perm_c p _) rfl Tryd.func23 (by kernel_rfl) (by kernel_rfl) (by rfl) (by rfl) ?_; intro K hK; rintro e w' ⟨rfl, hE⟩; refine ⟨_, rfl, (ext_below hE hs0), ?_⟩; simp only [Act.put, List.setIfInBounds_toArray, List.set_cons_zero, List.set_cons_succ]; refine hK _ _ ?_; clear hK K
              replace HW := Lib.hid (HW.out.trans hE)
              replace hb := hb.ext hE
              replace hs0 := Nat.le_trans hs0 hE.size
              clear hE
              refine seq_done ?_
              refine seq_done ?_
              refine ⟨?_, ?_⟩
              · refine seq_call (make_c p.pp (permP p) p.g _) rfl Tryd.func21 (by kernel_rfl) (by kernel_rfl) (by rfl) (by rfl) ?_; intro K hK; rintro e w' ⟨rfl, hE⟩; refine ⟨_, rfl, (ext_below hE hs0), ?_⟩; simp only [Act.put, List.setIfInBounds_toArray, List.set_cons_zero, List.set_cons_succ]; refine hK _ _ ?_; clear hK K
                replace HW := Lib.hid (HW.out.trans hE)
                replace hb := hb.ext hE
                replace hs0 := Nat.le_trans hs0 hE.size
                clear hE
                refine seq_done ?_
                have hn := Blk.new w' 24 #[.bool false, .bool false, .bool false, .bool false, .bool false, .bool false, .bool false, .bool false, .int .u64 0, .int .u64 0, .int .u64 0]
                have hlt := hb.lt
                refine seq_run (.pointer (some ⟨(w').heap.size, 0, none⟩)) ((w').alloc (.cells #[.bool false, .bool false, .bool false, .bool false, .bool false, .bool false, .bool false, .bool false, .int .u64 0, .int .u64 0, .int .u64 0] 24)) (by rfl) ?_ ((Below.refl _ _).alloc hs0 _) ?_; (simp [go_sem, execOp, Act.eval]); intro K hK; simp only [Act.put, List.setIfInBounds_toArray, List.set_cons_zero, List.set_cons_succ]; refine hK _ _ ?_; clear hK K
                refine seq_store_row rfl rfl rfl (hn) (pt_info _) (by simp [ptC_size]) (ptC_one _) (by rfl) ((below_row (Below.refl _ _) hs0 _)) ?_; intro K hK; simp only [Act.put, List.setIfInBounds_toArray, List.set_cons_zero, List.set_cons_succ]; refine hK _ _ ?_; clear hK K
                refine seq_done ?_
                have hm := hn.row (ptC (makeP p.pp (permP p) p.g))
                replace hb := (hb.alloc (.cells #[.bool false, .bool false, .bool false, .bool false, .bool false, .bool false, .bool false, .bool false, .int .u64 0, .int .u64 0, .int .u64 0] 24)).apart (k := w'.heap.size) (by omega) (ptC (makeP p.pp (permP p) p.g))
                replace HW := Lib.hid (Ext.row (HW.out.alloc (.cells #[.bool false, .bool false, .bool false, .bool false, .bool false, .bool false, .bool false, .bool false, .int .u64 0, .int .u64 0, .int .u64 0] 24)) HW.out.size (ptC (makeP p.pp (permP p) p.g)))
                generalize (w'.alloc (.cells #[.bool false, .bool false, .bool false, .bool false, .bool false, .bool false, .bool false, .bool false, .int .u64 0, .int .u64 0, .int .u64 0] 24)).setRow w'.heap.size (ptC (makeP p.pp (permP p) p.g)) = wf at hb hm HW ⊢
                have hpm := fun w => perm_c (makeP p.pp (permP p) p.g) w
                rw [perm_make] at hpm
                go_wp2_with fail
                replace hb := hb.drew
                replace hm := hm.drew
                replace HW := Lib.hid HW.out.drew
                refine wp_region_seq [(0, false), (2, false), (1, true), (3, true), (4, false), (5, false), (6, false), (7, false), (8, false), (9, false), (10, false), (11, false), (12, false), (13, false), (14, false), (15, false), (16, false), (17, false), (18, false), (19, false), (20, false), (21, false), (22, false), (23, false), (24, false), (25, false), (26, false), (27, false), (28, false), (29, false), (30, false), (31, false), (32, false), (33, false)] Ext (by kernel_rfl) (by kernel_rfl) Ext.refl (fun _ _ _ => Ext.trans) ?_; simp only [List.map, nth_z, nth_s]
                refine seq_load rfl rfl (fun x hx => Blk.ext (hm) hx) rfl Tryd.underlying24 (by kernel_rfl) (by rfl) ?_; intro K hK; simp only [Act.put, List.setIfInBounds_toArray, List.set_cons_zero, List.set_cons_succ]; refine hK _ ?_; clear hK K
                refine seq_load rfl rfl (fun x hx => Blk.ext (hb) hx) rfl Tryd.underlying24 (by kernel_rfl) (by rfl) ?_; intro K hK; simp only [Act.put, List.setIfInBounds_toArray, List.set_cons_zero, List.set_cons_succ]; refine hK _ ?_; clear hK K
                refine seq_call (hpm _) rfl Tryd.func23 (by kernel_rfl) (by kernel_rfl) (by rfl) (by rfl) ?_; intro K hK; rintro e w' ⟨rfl, hE⟩; refine ⟨_, rfl, hE, ?_⟩; simp only [Act.put, List.setIfInBounds_toArray, List.set_cons_zero, List.set_cons_succ]; refine hK _ _ ?_; clear hK K; replace HW := Lib.hid (HW.out.trans hE); replace hb := hb.ext hE; replace hm := hm.ext hE; clear hE
                refine seq_call (perm_c p _) rfl Tryd.func23 (by kernel_rfl) (by kernel_rfl) (by rfl) (by rfl) ?_; intro K hK; rintro e w' ⟨rfl, hE⟩; refine ⟨_, rfl, hE, ?_⟩; simp only [Act.put, List.setIfInBounds_toArray, List.set_cons_zero, List.set_cons_succ]; refine hK _ _ ?_; clear hK K; replace HW := Lib.hid (HW.out.trans hE); replace hb := hb.ext hE; replace hm := hm.ext hE; clear hE
                clear hpm
                obtain ⟨-, b5, -, -, -, b9⟩ := hb.ptf
                obtain ⟨m0, m5, m6, m7, m9⟩ := hm.made
                clear hb hm
                refine seq_value (.bool true) (by rfl) (fun x hx => by simp [go_sem, execOp, Act.eval, eql_perm, run_eqGuard_agg _ _ _ _ _ _ _ pte_guard, run_eqGuard_agg _ _ _ _ _ _ _ perm_guard]) ?_; intro K hK; simp only [Act.put, List.setIfInBounds_toArray, List.set_cons_zero, List.set_cons_succ]; refine hK _ ?_; clear hK K
                (repeat (first | (refine seq_skip (by rfl) ?_; intro K hK; simp only [Act.put, List.setIfInBounds_toArray, List.set_cons_zero, List.set_cons_succ]; refine hK _ ?_; clear hK K) | (refine seq_skipc (by rfl) ?_; intro K hK; simp only [Act.put, List.setIfInBounds_toArray, List.set_cons_zero, List.set_cons_succ]; refine hK _ ?_; clear hK K) | (refine seq_read (by rfl) (by rfl) ?_; intro K hK; go_big_quiet_op; first | go_big_quiet_on | (refine ⟨_, fun _ _ => rfl, ?_⟩; go_big_quiet_on))))
                refine seq_value (.bool true) (by rfl) (fun x hx => by have hq := ext_cell hx (m0); simp [go_sem, execOp, Act.eval, hq]) ?_; intro K hK; simp only [Act.put, List.setIfInBounds_toArray, List.set_cons_zero, List.set_cons_succ]; refine hK _ ?_; clear hK K
                (repeat (first | (refine seq_skip (by rfl) ?_; intro K hK; simp only [Act.put, List.setIfInBounds_toArray, List.set_cons_zero, List.set_cons_succ]; refine hK _ ?_; clear hK K) | (refine seq_skipc (by rfl) ?_; intro K hK; simp only [Act.put, List.setIfInBounds_toArray, List.set_cons_zero, List.set_cons_succ]; refine hK _ ?_; clear hK K) | (refine seq_read (by rfl) (by rfl) ?_; intro K hK; go_big_quiet_op; first | go_big_quiet_on | (refine ⟨_, fun _ _ => rfl, ?_⟩; go_big_quiet_on))))
                refine seq_value (.int .u64 (p.pp : Int)) (by rfl) (fun x hx => by have hq := ext_cell hx (m9); simp [go_sem, execOp, Act.eval, hq]) ?_; intro K hK; simp only [Act.put, List.setIfInBounds_toArray, List.set_cons_zero, List.set_cons_succ]; refine hK _ ?_; clear hK K
                (repeat (first | (refine seq_skip (by rfl) ?_; intro K hK; simp only [Act.put, List.setIfInBounds_toArray, List.set_cons_zero, List.set_cons_succ]; refine hK _ ?_; clear hK K) | (refine seq_skipc (by rfl) ?_; intro K hK; simp only [Act.put, List.setIfInBounds_toArray, List.set_cons_zero, List.set_cons_succ]; refine hK _ ?_; clear hK K) | (refine seq_read (by rfl) (by rfl) ?_; intro K hK; go_big_quiet_op; first | go_big_quiet_on | (refine ⟨_, fun _ _ => rfl, ?_⟩; go_big_quiet_on))))
                refine seq_value (.int .u64 (p.pp : Int)) (by rfl) (fun x hx => by have hq := ext_cell hx (b9); simp [go_sem, execOp, Act.eval, hq]) ?_; intro K hK; simp only [Act.put, List.setIfInBounds_toArray, List.set_cons_zero, List.set_cons_succ]; refine hK _ ?_; clear hK K
                (repeat (first | (refine seq_skip (by rfl) ?_; intro K hK; simp only [Act.put, List.setIfInBounds_toArray, List.set_cons_zero, List.set_cons_succ]; refine hK _ ?_; clear hK K) | (refine seq_skipc (by rfl) ?_; intro K hK; simp only [Act.put, List.setIfInBounds_toArray, List.set_cons_zero, List.set_cons_succ]; refine hK _ ?_; clear hK K) | (refine seq_read (by rfl) (by rfl) ?_; intro K hK; go_big_quiet_op; first | go_big_quiet_on | (refine ⟨_, fun _ _ => rfl, ?_⟩; go_big_quiet_on))))
                refine seq_value (.bool p.g) (by rfl) (fun x hx => by have hq := ext_cell hx (m5); simp [go_sem, execOp, Act.eval, hq]) ?_; intro K hK; simp only [Act.put, List.setIfInBounds_toArray, List.set_cons_zero, List.set_cons_succ]; refine hK _ ?_; clear hK K
                (repeat (first | (refine seq_skip (by rfl) ?_; intro K hK; simp only [Act.put, List.setIfInBounds_toArray, List.set_cons_zero, List.set_cons_succ]; refine hK _ ?_; clear hK K) | (refine seq_skipc (by rfl) ?_; intro K hK; simp only [Act.put, List.setIfInBounds_toArray, List.set_cons_zero, List.set_cons_succ]; refine hK _ ?_; clear hK K) | (refine seq_read (by rfl) (by rfl) ?_; intro K hK; go_big_quiet_op; first | go_big_quiet_on | (refine ⟨_, fun _ _ => rfl, ?_⟩; go_big_quiet_on))))
                refine seq_value (.bool p.g) (by rfl) (fun x hx => by have hq := ext_cell hx (b5); simp [go_sem, execOp, Act.eval, hq]) ?_; intro K hK; simp only [Act.put, List.setIfInBounds_toArray, List.set_cons_zero, List.set_cons_succ]; refine hK _ ?_; clear hK K
                (repeat (first | (refine seq_skip (by rfl) ?_; intro K hK; simp only [Act.put, List.setIfInBounds_toArray, List.set_cons_zero, List.set_cons_succ]; refine hK _ ?_; clear hK K) | (refine seq_skipc (by rfl) ?_; intro K hK; simp only [Act.put, List.setIfInBounds_toArray, List.set_cons_zero, List.set_cons_succ]; refine hK _ ?_; clear hK K) | (refine seq_read (by rfl) (by rfl) ?_; intro K hK; go_big_quiet_op; first | go_big_quiet_on | (refine ⟨_, fun _ _ => rfl, ?_⟩; go_big_quiet_on))))
                refine seq_value (.bool false) (by rfl) (fun x hx => by have hq := ext_cell hx (m6); simp [go_sem, execOp, Act.eval, hq]) ?_; intro K hK; simp only [Act.put, List.setIfInBounds_toArray, List.set_cons_zero, List.set_cons_succ]; refine hK _ ?_; clear hK K
                (repeat (first | (refine seq_skip (by rfl) ?_; intro K hK; simp only [Act.put, List.setIfInBounds_toArray, List.set_cons_zero, List.set_cons_succ]; refine hK _ ?_; clear hK K) | (refine seq_skipc (by rfl) ?_; intro K hK; simp only [Act.put, List.setIfInBounds_toArray, List.set_cons_zero, List.set_cons_succ]; refine hK _ ?_; clear hK K) | (refine seq_read (by rfl) (by rfl) ?_; intro K hK; go_big_quiet_op; first | go_big_quiet_on | (refine ⟨_, fun _ _ => rfl, ?_⟩; go_big_quiet_on))))
                refine seq_value (.bool false) (by rfl) (fun x hx => by have hq := ext_cell hx (m7); simp [go_sem, execOp, Act.eval, hq]) ?_; intro K hK; simp only [Act.put, List.setIfInBounds_toArray, List.set_cons_zero, List.set_cons_succ]; refine hK _ ?_; clear hK K
                (repeat (first | (refine seq_skip (by rfl) ?_; intro K hK; simp only [Act.put, List.setIfInBounds_toArray, List.set_cons_zero, List.set_cons_succ]; refine hK _ ?_; clear hK K) | (refine seq_skipc (by rfl) ?_; intro K hK; simp only [Act.put, List.setIfInBounds_toArray, List.set_cons_zero, List.set_cons_succ]; refine hK _ ?_; clear hK K) | (refine seq_read (by rfl) (by rfl) ?_; intro K hK; go_big_quiet_op; first | go_big_quiet_on | (refine ⟨_, fun _ _ => rfl, ?_⟩; go_big_quiet_on))))
                refine seq_done ?_
                clear b5 b9 m0 m5 m6 m7 m9
                go_wp2
                go_ret
                exact ⟨rfl, HE.out.trans HW.out⟩
              · have hn := Blk.new w' 24 #[.bool false, .bool false, .bool false, .bool false, .bool false, .bool false, .bool false, .bool false, .int .u64 0, .int .u64 0, .int .u64 0]
                have hlt := hb.lt
                replace hb := hb.alloc (.cells #[.bool false, .bool false, .bool false, .bool false, .bool false, .bool false, .bool false, .bool false, .int .u64 0, .int .u64 0, .int .u64 0] 24)
                obtain ⟨g, hg⟩ : ∃ g, g = w'.heap.size := ⟨_, rfl⟩
                have hs1 : B ≤ (w'.alloc (.cells #[.bool false, .bool false, .bool false, .bool false, .bool false, .bool false, .bool false, .bool false, .int .u64 0, .int .u64 0, .int .u64 0] 24)).heap.size := by simp; omega
                have hg0 : g < (w'.alloc (.cells #[.bool false, .bool false, .bool false, .bool false, .bool false, .bool false, .bool false, .bool false, .int .u64 0, .int .u64 0, .int .u64 0] 24)).heap.size := by simp; omega
                have HO := Lib.hid (show _ ≤ g from hg ▸ HW.out.size)
                replace HW := Lib.hid (HW.out.alloc (.cells #[.bool false, .bool false, .bool false, .bool false, .bool false, .bool false, .bool false, .bool false, .int .u64 0, .int .u64 0, .int .u64 0] 24))
                refine seq_run (.pointer (some ⟨(w').heap.size, 0, none⟩)) ((w').alloc (.cells #[.bool false, .bool false, .bool false, .bool false, .bool false, .bool false, .bool false, .bool false, .int .u64 0, .int .u64 0, .int .u64 0] 24)) (by rfl) ?_ ((Below.refl _ _).alloc hs0 _) ?_; (simp [go_sem, execOp, Act.eval]); intro K hK; simp only [Act.put, List.setIfInBounds_toArray, List.set_cons_zero, List.set_cons_succ]; refine hK _ _ ?_; clear hK K
                rw [← hg] at hn hlt hs0 ⊢
                clear hg
                refine seq_done ?_
                generalize w'.alloc (.cells #[.bool false, .bool false, .bool false, .bool false, .bool false, .bool false, .bool false, .bool false, .int .u64 0, .int .u64 0, .int .u64 0] 24) = wa at hb hn HW hs1 hg0 ⊢
                refine seq_call (make_c p.pp (permP p) p.g _) rfl Tryd.func21 (by kernel_rfl) (by kernel_rfl) (by rfl) (by rfl) ?_; intro K hK; rintro e w' ⟨rfl, hE⟩; refine ⟨_, rfl, (ext_below hE hs1), ?_⟩; simp only [Act.put, List.setIfInBounds_toArray, List.set_cons_zero, List.set_cons_succ]; refine hK _ _ ?_; clear hK K
                replace HW := Lib.hid (HW.out.trans hE)
                replace hb := hb.ext hE
                replace hn := hn.ext hE
                clear hE
                refine seq_store_row rfl rfl rfl (hn) (pt_info _) (by simp [ptC_size]) (ptC_one _) (by rfl) ((below_row (Below.refl _ _) hs0 _)) ?_; intro K hK; simp only [Act.put, List.setIfInBounds_toArray, List.set_cons_zero, List.set_cons_succ]; refine hK _ _ ?_; clear hK K
                refine seq_done ?_
                have hm := hn.row (ptC (makeP p.pp (permP p) p.g))
                replace hb := hb.apart (k := g) (by omega) (ptC (makeP p.pp (permP p) p.g))
                replace HW := Lib.hid (Ext.row HW.out HO.out (ptC (makeP p.pp (permP p) p.g)))
                generalize w'.setRow g (ptC (makeP p.pp (permP p) p.g)) = wf at hb hm HW ⊢
                have hpm := fun w => perm_c (makeP p.pp (permP p) p.g) w
                rw [perm_make] at hpm
                go_wp2_with fail
                replace hb := hb.drew
                replace hm := hm.drew
                replace HW := Lib.hid HW.out.drew
                refine wp_region_seq [(0, false), (2, false), (1, true), (3, true), (4, false), (5, false), (6, false), (7, false), (8, false), (9, false), (10, false), (11, false), (12, false), (13, false), (14, false), (15, false), (16, false), (17, false), (18, false), (19, false), (20, false), (21, false), (22, false), (23, false), (24, false), (25, false), (26, false), (27, false), (28, false), (29, false), (30, false), (31, false), (32, false), (33, false)] Ext (by kernel_rfl) (by kernel_rfl) Ext.refl (fun _ _ _ => Ext.trans) ?_; simp only [List.map, nth_z, nth_s]
                refine seq_load rfl rfl (fun x hx => Blk.ext (hm) hx) rfl Tryd.underlying24 (by kernel_rfl) (by rfl) ?_; intro K hK; simp only [Act.put, List.setIfInBounds_toArray, List.set_cons_zero, List.set_cons_succ]; refine hK _ ?_; clear hK K
                refine seq_load rfl rfl (fun x hx => Blk.ext (hb) hx) rfl Tryd.underlying24 (by kernel_rfl) (by rfl) ?_; intro K hK; simp only [Act.put, List.setIfInBounds_toArray, List.set_cons_zero, List.set_cons_succ]; refine hK _ ?_; clear hK K
                refine seq_call (hpm _) rfl Tryd.func23 (by kernel_rfl) (by kernel_rfl) (by rfl) (by rfl) ?_; intro K hK; rintro e w' ⟨rfl, hE⟩; refine ⟨_, rfl, hE, ?_⟩; simp only [Act.put, List.setIfInBounds_toArray, List.set_cons_zero, List.set_cons_succ]; refine hK _ _ ?_; clear hK K; replace HW := Lib.hid (HW.out.trans hE); replace hb := hb.ext hE; replace hm := hm.ext hE; clear hE
                refine seq_call (perm_c p _) rfl Tryd.func23 (by kernel_rfl) (by kernel_rfl) (by rfl) (by rfl) ?_; intro K hK; rintro e w' ⟨rfl, hE⟩; refine ⟨_, rfl, hE, ?_⟩; simp only [Act.put, List.setIfInBounds_toArray, List.set_cons_zero, List.set_cons_succ]; refine hK _ _ ?_; clear hK K; replace HW := Lib.hid (HW.out.trans hE); replace hb := hb.ext hE; replace hm := hm.ext hE; clear hE
                clear hpm
                obtain ⟨-, b5, -, -, -, b9⟩ := hb.ptf
                obtain ⟨m0, m5, m6, m7, m9⟩ := hm.made
                clear hb hm
                refine seq_value (.bool true) (by rfl) (fun x hx => by simp [go_sem, execOp, Act.eval, eql_perm, run_eqGuard_agg _ _ _ _ _ _ _ pte_guard, run_eqGuard_agg _ _ _ _ _ _ _ perm_guard]) ?_; intro K hK; simp only [Act.put, List.setIfInBounds_toArray, List.set_cons_zero, List.set_cons_succ]; refine hK _ ?_; clear hK K
                (repeat (first | (refine seq_skip (by rfl) ?_; intro K hK; simp only [Act.put, List.setIfInBounds_toArray, List.set_cons_zero, List.set_cons_succ]; refine hK _ ?_; clear hK K) | (refine seq_skipc (by rfl) ?_; intro K hK; simp only [Act.put, List.setIfInBounds_toArray, List.set_cons_zero, List.set_cons_succ]; refine hK _ ?_; clear hK K) | (refine seq_read (by rfl) (by rfl) ?_; intro K hK; go_big_quiet_op; first | go_big_quiet_on | (refine ⟨_, fun _ _ => rfl, ?_⟩; go_big_quiet_on))))
                refine seq_value (.bool true) (by rfl) (fun x hx => by have hq := ext_cell hx (m0); simp [go_sem, execOp, Act.eval, hq]) ?_; intro K hK; simp only [Act.put, List.setIfInBounds_toArray, List.set_cons_zero, List.set_cons_succ]; refine hK _ ?_; clear hK K
                (repeat (first | (refine seq_skip (by rfl) ?_; intro K hK; simp only [Act.put, List.setIfInBounds_toArray, List.set_cons_zero, List.set_cons_succ]; refine hK _ ?_; clear hK K) | (refine seq_skipc (by rfl) ?_; intro K hK; simp only [Act.put, List.setIfInBounds_toArray, List.set_cons_zero, List.set_cons_succ]; refine hK _ ?_; clear hK K) | (refine seq_read (by rfl) (by rfl) ?_; intro K hK; go_big_quiet_op; first | go_big_quiet_on | (refine ⟨_, fun _ _ => rfl, ?_⟩; go_big_quiet_on))))
                refine seq_value (.int .u64 (p.pp : Int)) (by rfl) (fun x hx => by have hq := ext_cell hx (m9); simp [go_sem, execOp, Act.eval, hq]) ?_; intro K hK; simp only [Act.put, List.setIfInBounds_toArray, List.set_cons_zero, List.set_cons_succ]; refine hK _ ?_; clear hK K
                (repeat (first | (refine seq_skip (by rfl) ?_; intro K hK; simp only [Act.put, List.setIfInBounds_toArray, List.set_cons_zero, List.set_cons_succ]; refine hK _ ?_; clear hK K) | (refine seq_skipc (by rfl) ?_; intro K hK; simp only [Act.put, List.setIfInBounds_toArray, List.set_cons_zero, List.set_cons_succ]; refine hK _ ?_; clear hK K) | (refine seq_read (by rfl) (by rfl) ?_; intro K hK; go_big_quiet_op; first | go_big_quiet_on | (refine ⟨_, fun _ _ => rfl, ?_⟩; go_big_quiet_on))))
                refine seq_value (.int .u64 (p.pp : Int)) (by rfl) (fun x hx => by have hq := ext_cell hx (b9); simp [go_sem, execOp, Act.eval, hq]) ?_; intro K hK; simp only [Act.put, List.setIfInBounds_toArray, List.set_cons_zero, List.set_cons_succ]; refine hK _ ?_; clear hK K
                (repeat (first | (refine seq_skip (by rfl) ?_; intro K hK; simp only [Act.put, List.setIfInBounds_toArray, List.set_cons_zero, List.set_cons_succ]; refine hK _ ?_; clear hK K) | (refine seq_skipc (by rfl) ?_; intro K hK; simp only [Act.put, List.setIfInBounds_toArray, List.set_cons_zero, List.set_cons_succ]; refine hK _ ?_; clear hK K) | (refine seq_read (by rfl) (by rfl) ?_; intro K hK; go_big_quiet_op; first | go_big_quiet_on | (refine ⟨_, fun _ _ => rfl, ?_⟩; go_big_quiet_on))))
                refine seq_value (.bool p.g) (by rfl) (fun x hx => by have hq := ext_cell hx (m5); simp [go_sem, execOp, Act.eval, hq]) ?_; intro K hK; simp only [Act.put, List.setIfInBounds_toArray, List.set_cons_zero, List.set_cons_succ]; refine hK _ ?_; clear hK K
                (repeat (first | (refine seq_skip (by rfl) ?_; intro K hK; simp only [Act.put, List.setIfInBounds_toArray, List.set_cons_zero, List.set_cons_succ]; refine hK _ ?_; clear hK K) | (refine seq_skipc (by rfl) ?_; intro K hK; simp only [Act.put, List.setIfInBounds_toArray, List.set_cons_zero, List.set_cons_succ]; refine hK _ ?_; clear hK K) | (refine seq_read (by rfl) (by rfl) ?_; intro K hK; go_big_quiet_op; first | go_big_quiet_on | (refine ⟨_, fun _ _ => rfl, ?_⟩; go_big_quiet_on))))
                refine seq_value (.bool p.g) (by rfl) (fun x hx => by have hq := ext_cell hx (b5); simp [go_sem, execOp, Act.eval, hq]) ?_; intro K hK; simp only [Act.put, List.setIfInBounds_toArray, List.set_cons_zero, List.set_cons_succ]; refine hK _ ?_; clear hK K
                (repeat (first | (refine seq_skip (by rfl) ?_; intro K hK; simp only [Act.put, List.setIfInBounds_toArray, List.set_cons_zero, List.set_cons_succ]; refine hK _ ?_; clear hK K) | (refine seq_skipc (by rfl) ?_; intro K hK; simp only [Act.put, List.setIfInBounds_toArray, List.set_cons_zero, List.set_cons_succ]; refine hK _ ?_; clear hK K) | (refine seq_read (by rfl) (by rfl) ?_; intro K hK; go_big_quiet_op; first | go_big_quiet_on | (refine ⟨_, fun _ _ => rfl, ?_⟩; go_big_quiet_on))))
                refine seq_value (.bool false) (by rfl) (fun x hx => by have hq := ext_cell hx (m6); simp [go_sem, execOp, Act.eval, hq]) ?_; intro K hK; simp only [Act.put, List.setIfInBounds_toArray, List.set_cons_zero, List.set_cons_succ]; refine hK _ ?_; clear hK K
                (repeat (first | (refine seq_skip (by rfl) ?_; intro K hK; simp only [Act.put, List.setIfInBounds_toArray, List.set_cons_zero, List.set_cons_succ]; refine hK _ ?_; clear hK K) | (refine seq_skipc (by rfl) ?_; intro K hK; simp only [Act.put, List.setIfInBounds_toArray, List.set_cons_zero, List.set_cons_succ]; refine hK _ ?_; clear hK K) | (refine seq_read (by rfl) (by rfl) ?_; intro K hK; go_big_quiet_op; first | go_big_quiet_on | (refine ⟨_, fun _ _ => rfl, ?_⟩; go_big_quiet_on))))
                refine seq_value (.bool false) (by rfl) (fun x hx => by have hq := ext_cell hx (m7); simp [go_sem, execOp, Act.eval, hq]) ?_; intro K hK; simp only [Act.put, List.setIfInBounds_toArray, List.set_cons_zero, List.set_cons_succ]; refine hK _ ?_; clear hK K
                (repeat (first | (refine seq_skip (by rfl) ?_; intro K hK; simp only [Act.put, List.setIfInBounds_toArray, List.set_cons_zero, List.set_cons_succ]; refine hK _ ?_; clear hK K) | (refine seq_skipc (by rfl) ?_; intro K hK; simp only [Act.put, List.setIfInBounds_toArray, List.set_cons_zero, List.set_cons_succ]; refine hK _ ?_; clear hK K) | (refine seq_read (by rfl) (by rfl) ?_; intro K hK; go_big_quiet_op; first | go_big_quiet_on | (refine ⟨_, fun _ _ => rfl, ?_⟩; go_big_quiet_on))))
                refine seq_done ?_
                clear b5 b9 m0 m5 m6 m7 m9
                go_wp2
                go_ret
                exact ⟨rfl, HE.out.trans HW.out⟩
            · have hn := Blk.new wd 24 #[.bool false, .bool false, .bool false, .bool false, .bool false, .bool false, .bool false, .bool false, .int .u64 0, .int .u64 0, .int .u64 0]
              have hlt := hb.lt
              replace hb := hb.alloc (.cells #[.bool false, .bool false, .bool false, .bool false, .bool false, .bool false, .bool false, .bool false, .int .u64 0, .int .u64 0, .int .u64 0] 24)
              obtain ⟨g, hg⟩ : ∃ g, g = wd.heap.size := ⟨_, rfl⟩
              have hs1 : B ≤ (wd.alloc (.cells #[.bool false, .bool false, .bool false, .bool false, .bool false, .bool false, .bool false, .bool false, .int .u64 0, .int .u64 0, .int .u64 0] 24)).heap.size := by simp; omega
              have HO := Lib.hid (show _ ≤ g from hg ▸ HW.out.size)
              replace HW := Lib.hid (HW.out.alloc (.cells #[.bool false, .bool false, .bool false, .bool false, .bool false, .bool false, .bool false, .bool false, .int .u64 0, .int .u64 0, .int .u64 0] 24))
              refine seq_run (.pointer (some ⟨(wd).heap.size, 0, none⟩)) ((wd).alloc (.cells #[.bool false, .bool false, .bool false, .bool false, .bool false, .bool false, .bool false, .bool false, .int .u64 0, .int .u64 0, .int .u64 0] 24)) (by rfl) ?_ ((Below.refl _ _).alloc hs0 _) ?_; (simp [go_sem, execOp, Act.eval]); intro K hK; simp only [Act.put, List.setIfInBounds_toArray, List.set_cons_zero, List.set_cons_succ]; refine hK _ _ ?_; clear hK K
              rw [← hg] at hn hlt hs0 ⊢
              clear hg
              refine seq_done ?_
              generalize wd.alloc (.cells #[.bool false, .bool false, .bool false, .bool false, .bool false, .bool false, .bool false, .bool false, .int .u64 0, .int .u64 0, .int .u64 0] 24) = wa at hb hn HW hs1 ⊢
              refine seq_call (perm_c p _) rfl Tryd.func23 (by kernel_rfl) (by kernel_rfl) (by rfl) (by rfl) ?_; intro K hK; rintro e w' ⟨rfl, hE⟩; refine ⟨_, rfl, (ext_below hE hs1), ?_⟩; simp only [Act.put, List.setIfInBounds_toArray, List.set_cons_zero, List.set_cons_succ]; refine hK _ _ ?_; clear hK K
              replace HW := Lib.hid (HW.out.trans hE)
              replace hb := hb.ext hE
              replace hn := hn.ext hE
              replace hs1 := Nat.le_trans hs1 hE.size
              clear hE
              refine seq_call (make_c p.pp (permP p) p.g _) rfl Tryd.func21 (by kernel_rfl) (by kernel_rfl) (by rfl) (by rfl) ?_; intro K hK; rintro e w' ⟨rfl, hE⟩; refine ⟨_, rfl, (ext_below hE hs1), ?_⟩; simp only [Act.put, List.setIfInBounds_toArray, List.set_cons_zero, List.set_cons_succ]; refine hK _ _ ?_; clear hK K
              replace HW := Lib.hid (HW.out.trans hE)
              replace hb := hb.ext hE
              replace hn := hn.ext hE
              clear hE
              refine seq_store_row rfl rfl rfl (hn) (pt_info _) (by simp [ptC_size]) (ptC_one _) (by rfl) ((below_row (Below.refl _ _) hs0 _)) ?_; intro K hK; simp only [Act.put, List.setIfInBounds_toArray, List.set_cons_zero, List.set_cons_succ]; refine hK _ _ ?_; clear hK K
              refine seq_done ?_
              have hm := hn.row (ptC (makeP p.pp (permP p) p.g))
              replace hb := hb.apart (k := g) (by omega) (ptC (makeP p.pp (permP p) p.g))
              replace HW := Lib.hid (Ext.row HW.out HO.out (ptC (makeP p.pp (permP p) p.g)))
              generalize w'.setRow g (ptC (makeP p.pp (permP p) p.g)) = wf at hb hm HW ⊢
              have hpm := fun w => perm_c (makeP p.pp (permP p) p.g) w
              rw [perm_make] at hpm
              go_wp2_with fail
              replace hb := hb.drew
              replace hm := hm.drew
              replace HW := Lib.hid HW.out.drew
              refine wp_region_seq [(0, false), (2, false), (1, true), (3, true), (4, false), (5, false), (6, false), (7, false), (8, false), (9, false), (10, false), (11, false), (12, false), (13, false), (14, false), (15, false), (16, false), (17, false), (18, false), (19, false), (20, false), (21, false), (22, false), (23, false), (24, false), (25, false), (26, false), (27, false), (28, false), (29, false), (30, false), (31, false), (32, false), (33, false)] Ext (by kernel_rfl) (by kernel_rfl) Ext.refl (fun _ _ _ => Ext.trans) ?_; simp only [List.map, nth_z, nth_s]
              refine seq_load rfl rfl (fun x hx => Blk.ext (hm) hx) rfl Tryd.underlying24 (by kernel_rfl) (by rfl) ?_; intro K hK; simp only [Act.put, List.setIfInBounds_toArray, List.set_cons_zero, List.set_cons_succ]; refine hK _ ?_; clear hK K
              refine seq_load rfl rfl (fun x hx => Blk.ext (hb) hx) rfl Tryd.underlying24 (by kernel_rfl) (by rfl) ?_; intro K hK; simp only [Act.put, List.setIfInBounds_toArray, List.set_cons_zero, List.set_cons_succ]; refine hK _ ?_; clear hK K
              refine seq_call (hpm _) rfl Tryd.func23 (by kernel_rfl) (by kernel_rfl) (by rfl) (by rfl) ?_; intro K hK; rintro e w' ⟨rfl, hE⟩; refine ⟨_, rfl, hE, ?_⟩; simp only [Act.put, List.setIfInBounds_toArray, List.set_cons_zero, List.set_cons_succ]; refine hK _ _ ?_; clear hK K; replace HW := Lib.hid (HW.out.trans hE); replace hb := hb.ext hE; replace hm := hm.ext hE; clear hE
              refine seq_call (perm_c p _) rfl Tryd.func23 (by kernel_rfl) (by kernel_rfl) (by rfl) (by rfl) ?_; intro K hK; rintro e w' ⟨rfl, hE⟩; refine ⟨_, rfl, hE, ?_⟩; simp only [Act.put, List.setIfInBounds_toArray, List.set_cons_zero, List.set_cons_succ]; refine hK _ _ ?_; clear hK K; replace HW := Lib.hid (HW.out.trans hE); replace hb := hb.ext hE; replace hm := hm.ext hE; clear hE
              clear hpm
              obtain ⟨-, b5, -, -, -, b9⟩ := hb.ptf
              obtain ⟨m0, m5, m6, m7, m9⟩ := hm.made
              clear hb hm
              refine seq_value (.bool true) (by rfl) (fun x hx => by simp [go_sem, execOp, Act.eval, eql_perm, run_eqGuard_agg _ _ _ _ _ _ _ pte_guard, run_eqGuard_agg _ _ _ _ _ _ _ perm_guard]) ?_; intro K hK; simp only [Act.put, List.setIfInBounds_toArray, List.set_cons_zero, List.set_cons_succ]; refine hK _ ?_; clear hK K
              (repeat (first | (refine seq_skip (by rfl) ?_; intro K hK; simp only [Act.put, List.setIfInBounds_toArray, List.set_cons_zero, List.set_cons_succ]; refine hK _ ?_; clear hK K) | (refine seq_skipc (by rfl) ?_; intro K hK; simp only [Act.put, List.setIfInBounds_toArray, List.set_cons_zero, List.set_cons_succ]; refine hK _ ?_; clear hK K) | (refine seq_read (by rfl) (by rfl) ?_; intro K hK; go_big_quiet_op; first | go_big_quiet_on | (refine ⟨_, fun _ _ => rfl, ?_⟩; go_big_quiet_on))))
              refine seq_value (.bool true) (by rfl) (fun x hx => by have hq := ext_cell hx (m0); simp [go_sem, execOp, Act.eval, hq]) ?_; intro K hK; simp only [Act.put, List.setIfInBounds_toArray, List.set_cons_zero, List.set_cons_succ]; refine hK _ ?_; clear hK K
              (repeat (first | (refine seq_skip (by rfl) ?_; intro K hK; simp only [Act.put, List.setIfInBounds_toArray, List.set_cons_zero, List.set_cons_succ]; refine hK _ ?_; clear hK K) | (refine seq_skipc (by rfl) ?_; intro K hK; simp only [Act.put, List.setIfInBounds_toArray, List.set_cons_zero, List.set_cons_succ]; refine hK _ ?_; clear hK K) | (refine seq_read (by rfl) (by rfl) ?_; intro K hK; go_big_quiet_op; first | go_big_quiet_on | (refine ⟨_, fun _ _ => rfl, ?_⟩; go_big_quiet_on))))
              refine seq_value (.int .u64 (p.pp : Int)) (by rfl) (fun x hx => by have hq := ext_cell hx (m9); simp [go_sem, execOp, Act.eval, hq]) ?_; intro K hK; simp only [Act.put, List.setIfInBounds_toArray, List.set_cons_zero, List.set_cons_succ]; refine hK _ ?_; clear hK K
              (repeat (first | (refine seq_skip (by rfl) ?_; intro K hK; simp only [Act.put, List.setIfInBounds_toArray, List.set_cons_zero, List.set_cons_succ]; refine hK _ ?_; clear hK K) | (refine seq_skipc (by rfl) ?_; intro K hK; simp only [Act.put, List.setIfInBounds_toArray, List.set_cons_zero, List.set_cons_succ]; refine hK _ ?_; clear hK K) | (refine seq_read (by rfl) (by rfl) ?_; intro K hK; go_big_quiet_op; first | go_big_quiet_on | (refine ⟨_, fun _ _ => rfl, ?_⟩; go_big_quiet_on))))
              refine seq_value (.int .u64 (p.pp : Int)) (by rfl) (fun x hx => by have hq := ext_cell hx (b9); simp [go_sem, execOp, Act.eval, hq]) ?_; intro K hK; simp only [Act.put, List.setIfInBounds_toArray, List.set_cons_zero, List.set_cons_succ]; refine hK _ ?_; clear hK K
              (repeat (first | (refine seq_skip (by rfl) ?_; intro K hK; simp only [Act.put, List.setIfInBounds_toArray, List.set_cons_zero, List.set_cons_succ]; refine hK _ ?_; clear hK K) | (refine seq_skipc (by rfl) ?_; intro K hK; simp only [Act.put, List.setIfInBounds_toArray, List.set_cons_zero, List.set_cons_succ]; refine hK _ ?_; clear hK K) | (refine seq_read (by rfl) (by rfl) ?_; intro K hK; go_big_quiet_op; first | go_big_quiet_on | (refine ⟨_, fun _ _ => rfl, ?_⟩; go_big_quiet_on))))
              refine seq_value (.bool p.g) (by rfl) (fun x hx => by have hq := ext_cell hx (m5); simp [go_sem, execOp, Act.eval, hq]) ?_; intro K hK; simp only [Act.put, List.setIfInBounds_toArray, List.set_cons_zero, List.set_cons_succ]; refine hK _ ?_; clear hK K
              (repeat (first | (refine seq_skip (by rfl) ?_; intro K hK; simp only [Act.put, List.setIfInBounds_toArray, List.set_cons_zero, List.set_cons_succ]; refine hK _ ?_; clear hK K) | (refine seq_skipc (by rfl) ?_; intro K hK; simp only [Act.put, List.setIfInBounds_toArray, List.set_cons_zero, List.set_cons_succ]; refine hK _ ?_; clear hK K) | (refine seq_read (by rfl) (by rfl) ?_; intro K hK; go_big_quiet_op; first | go_big_quiet_on | (refine ⟨_, fun _ _ => rfl, ?_⟩; go_big_quiet_on))))
              refine seq_value (.bool p.g) (by rfl) (fun x hx => by have hq := ext_cell hx (b5); simp [go_sem, execOp, Act.eval, hq]) ?_; intro K hK; simp only [Act.put, List.setIfInBounds_toArray, List.set_cons_zero, List.set_cons_succ]; refine hK _ ?_; clear hK K
              (repeat (first | (refine seq_skip (by rfl) ?_; intro K hK; simp only [Act.put, List.setIfInBounds_toArray, List.set_cons_zero, List.set_cons_succ]; refine hK _ ?_; clear hK K) | (refine seq_skipc (by rfl) ?_; intro K hK; simp only [Act.put, List.setIfInBounds_toArray, List.set_cons_zero, List.set_cons_succ]; refine hK _ ?_; clear hK K) | (refine seq_read (by rfl) (by rfl) ?_; intro K hK; go_big_quiet_op; first | go_big_quiet_on | (refine ⟨_, fun _ _ => rfl, ?_⟩; go_big_quiet_on))))
              refine seq_value (.bool false) (by rfl) (fun x hx => by have hq := ext_cell hx (m6); simp [go_sem, execOp, Act.eval, hq]) ?_; intro K hK; simp only [Act.put, List.setIfInBounds_toArray, List.set_cons_zero, List.set_cons_succ]; refine hK _ ?_; clear hK K
              (repeat (first | (refine seq_skip (by rfl) ?_; intro K hK; simp only [Act.put, List.setIfInBounds_toArray, List.set_cons_zero, List.set_cons_succ]; refine hK _ ?_; clear hK K) | (refine seq_skipc (by rfl) ?_; intro K hK; simp only [Act.put, List.setIfInBounds_toArray, List.set_cons_zero, List.set_cons_succ]; refine hK _ ?_; clear hK K) | (refine seq_read (by rfl) (by rfl) ?_; intro K hK; go_big_quiet_op; first | go_big_quiet_on | (refine ⟨_, fun _ _ => rfl, ?_⟩; go_big_quiet_on))))
              refine seq_value (.bool false) (by rfl) (fun x hx => by have hq := ext_cell hx (m7); simp [go_sem, execOp, Act.eval, hq]) ?_; intro K hK; simp only [Act.put, List.setIfInBounds_toArray, List.set_cons_zero, List.set_cons_succ]; refine hK _ ?_; clear hK K
              (repeat (first | (refine seq_skip (by rfl) ?_; intro K hK; simp only [Act.put, List.setIfInBounds_toArray, List.set_cons_zero, List.set_cons_succ]; refine hK _ ?_; clear hK K) | (refine seq_skipc (by rfl) ?_; intro K hK; simp only [Act.put, List.setIfInBounds_toArray, List.set_cons_zero, List.set_cons_succ]; refine hK _ ?_; clear hK K) | (refine seq_read (by rfl) (by rfl) ?_; intro K hK; go_big_quiet_op; first | go_big_quiet_on | (refine ⟨_, fun _ _ => rfl, ?_⟩; go_big_quiet_on))))
              refine seq_done ?_
              clear b5 b9 m0 m5 m6 m7 m9
              go_wp2
              go_ret
              exact ⟨rfl, HE.out.trans HW.out⟩
  · (repeat (first | (refine seq_skip (by rfl) ?_; intro K hK; simp only [Act.put, List.setIfInBounds_toArray, List.set_cons_zero, List.set_cons_succ]; refine hK _ ?_; clear hK K) | (refine seq_skipc (by rfl) ?_; intro K hK; simp only [Act.put, List.setIfInBounds_toArray, List.set_cons_zero, List.set_cons_succ]; refine hK _ ?_; clear hK K) | (refine seq_read (by rfl) (by rfl) ?_; intro K hK; go_big_quiet_op; first | go_big_quiet_on | (refine ⟨_, fun _ _ => rfl, ?_⟩; go_big_quiet_on))))
    have b0 := hb.ptf.1
    rw [hv] at b0
    refine seq_value (.bool false) (by rfl) (fun x hx => by have hq := ext_cell hx (b0); simp [go_sem, execOp, Act.eval, hq]) ?_; intro K hK; simp only [Act.put, List.setIfInBounds_toArray, List.set_cons_zero, List.set_cons_succ]; refine hK _ ?_; clear hK K
    clear b0 hv
    refine seq_load rfl rfl (fun x hx => Blk.ext (hb) hx) rfl Tryd.underlying24 (by kernel_rfl) (by rfl) ?_; intro K hK; simp only [Act.put, List.setIfInBounds_toArray, List.set_cons_zero, List.set_cons_succ]; refine hK _ ?_; clear hK K
    refine seq_call (hleaf _) rfl Tryd.func15 (by kernel_rfl) (by kernel_rfl) (by rfl) (by rfl) ?_; intro K hK; rintro e w' ⟨rfl, hE⟩; refine ⟨_, rfl, hE, ?_⟩; simp only [Act.put, List.setIfInBounds_toArray, List.set_cons_zero, List.set_cons_succ]; refine hK _ _ ?_; clear hK K; replace HE := Lib.hid (HE.out.trans hE); replace hb := hb.ext hE; replace hc := hc.ext hE; replace HT := Lib.hid (HT.out.ext hE); clear hE
    (repeat (first | (refine seq_skip (by rfl) ?_; intro K hK; simp only [Act.put, List.setIfInBounds_toArray, List.set_cons_zero, List.set_cons_succ]; refine hK _ ?_; clear hK K) | (refine seq_skipc (by rfl) ?_; intro K hK; simp only [Act.put, List.setIfInBounds_toArray, List.set_cons_zero, List.set_cons_succ]; refine hK _ ?_; clear hK K) | (refine seq_read (by rfl) (by rfl) ?_; intro K hK; go_big_quiet_op; first | go_big_quiet_on | (refine ⟨_, fun _ _ => rfl, ?_⟩; go_big_quiet_on))))
    refine seq_load rfl rfl (fun x hx => Blk.ext (hb) hx) rfl Tryd.underlying24 (by kernel_rfl) (by rfl) ?_; intro K hK; simp only [Act.put, List.setIfInBounds_toArray, List.set_cons_zero, List.set_cons_succ]; refine hK _ ?_; clear hK K
    refine seq_call (hlink _) rfl Tryd.func17 (by kernel_rfl) (by kernel_rfl) (by rfl) (by rfl) ?_; intro K hK; rintro e w' ⟨rfl, hE⟩; refine ⟨_, rfl, hE, ?_⟩; simp only [Act.put, List.setIfInBounds_toArray, List.set_cons_zero, List.set_cons_succ]; refine hK _ _ ?_; clear hK K; replace HE := Lib.hid (HE.out.trans hE); replace hb := hb.ext hE; replace hc := hc.ext hE; replace HT := Lib.hid (HT.out.ext hE); clear hE
    (repeat (first | (refine seq_skip (by rfl) ?_; intro K hK; simp only [Act.put, List.setIfInBounds_toArray, List.set_cons_zero, List.set_cons_succ]; refine hK _ ?_; clear hK K) | (refine seq_skipc (by rfl) ?_; intro K hK; simp only [Act.put, List.setIfInBounds_toArray, List.set_cons_zero, List.set_cons_succ]; refine hK _ ?_; clear hK K) | (refine seq_read (by rfl) (by rfl) ?_; intro K hK; go_big_quiet_op; first | go_big_quiet_on | (refine ⟨_, fun _ _ => rfl, ?_⟩; go_big_quiet_on))))
    refine seq_done ?_
    go_wp2_with fail
    go_loopw [5] (fun a W => ∃ l : Int, 1 ≤ l ∧ l ≤ 3 ∧ a = .int .i64 l ∧ Ext w' W) (fun a _ => 3 - (intOf a).toNat)
    case atStart => exact ⟨1, by omega, by omega, rfl, Ext.refl _⟩
    case round =>
      obtain ⟨l, hl1, hl3, rfl, hEl⟩ := hrel
      replace hb := hb.ext hEl
      replace hc := hc.ext hEl
      replace HT := Lib.hid (HT.out.ext hEl)
      have HW := Lib.hid hEl
      clear hEl
      obtain rfl | rfl | rfl : l = 1 ∨ l = 2 ∨ l = 3 := by omega
      · have hbd := hbad 1 (by decide) (by decide)
        cases hB1 : badB p 1
        · rw [hB1] at hbd
          go_wp2_with (refine wpList_load_blk (by rfl) 24 _ rfl rfl (by assumption) Tryd.underlying24 rfl (by kernel_rfl) ?_)
          refine (hbd _ HT.out).mono ?_
          rintro e w5 ⟨rfl, hE⟩
          replace HW := Lib.hid (HW.out.trans hE)
          replace hb := hb.ext hE
          replace hc := hc.ext hE
          replace HT := Lib.hid (HT.out.ext hE)
          clear hE
          clear hbd
          have hbd := hbad 0 (by decide) (by decide)
          cases hB0 : badB p 0
          · rw [hB0] at hbd
            go_wp2_with (refine wpList_load_blk (by rfl) 24 _ rfl rfl (by assumption) Tryd.underlying24 rfl (by kernel_rfl) ?_)
            refine (hbd _ HT.out).mono ?_
            rintro e w5 ⟨rfl, hE⟩
            replace HW := Lib.hid (HW.out.trans hE)
            replace hb := hb.ext hE
            replace hc := hc.ext hE
            replace HT := Lib.hid (HT.out.ext hE)
            clear hE
            clear hbd
            go_wp2
            go_roundw
            case rel => exact ⟨2, by omega, by omega, rfl, HW.out⟩
            case measure => simp [intOf]
          · rw [hB0] at hbd
            have hk := f10.out hB1 hB0
            first
              | (cases hk; done)
              | skip
                go_wp2_with (refine wpList_load_blk (by rfl) 24 _ rfl rfl (by assumption) Tryd.underlying24 rfl (by kernel_rfl) ?_)
                refine (hbd _ HT.out).mono ?_
                rintro e w5 ⟨rfl, hE⟩
                replace HW := Lib.hid (HW.out.trans hE)
                replace hb := hb.ext hE
                replace hc := hc.ext hE
                replace HT := Lib.hid (HT.out.ext hE)
                clear hE
                clear hbd hk
                go_wp2_with (refine wpList_load_blk (by rfl) 24 _ rfl rfl (by assumption) Tryd.underlying24 rfl (by kernel_rfl) ?_)
                refine (hlink _).mono ?_
                rintro e w5 ⟨rfl, hE⟩
                replace HW := Lib.hid (HW.out.trans hE)
                replace hb := hb.ext hE
                replace hc := hc.ext hE
                replace HT := Lib.hid (HT.out.ext hE)
                clear hE
                go_wp2
                go_roundw
                case rel => exact ⟨2, by omega, by omega, rfl, HW.out⟩
                case measure => simp [intOf]
        · rw [hB1] at hbd
          go_wp2_with (refine wpList_load_blk (by rfl) 24 _ rfl rfl (by assumption) Tryd.underlying24 rfl (by kernel_rfl) ?_)
          refine (hbd _ HT.out).mono ?_
          rintro e w5 ⟨rfl, hE⟩
          replace HW := Lib.hid (HW.out.trans hE)
          replace hb := hb.ext hE
          replace hc := hc.ext hE
          replace HT := Lib.hid (HT.out.ext hE)
          clear hE
          clear hbd
          go_wp2
          go_roundw
          case rel => exact ⟨2, by omega, by omega, rfl, HW.out⟩
          case measure => simp [intOf]
      · have hbd := hbad 2 (by decide) (by decide)
        cases hB2 : badB p 2
        · rw [hB2] at hbd
          go_wp2_with (refine wpList_load_blk (by rfl) 24 _ rfl rfl (by assumption) Tryd.underlying24 rfl (by kernel_rfl) ?_)
          refine (hbd _ HT.out).mono ?_
          rintro e w5 ⟨rfl, hE⟩
          replace HW := Lib.hid (HW.out.trans hE)
          replace hb := hb.ext hE
          replace hc := hc.ext hE
          replace HT := Lib.hid (HT.out.ext hE)
          clear hE
          clear hbd
          have hbd := hbad 1 (by decide) (by decide)
          rw [f21.out hB2] at hbd
          go_wp2_with (refine wpList_load_blk (by rfl) 24 _ rfl rfl (by assumption) Tryd.underlying24 rfl (by kernel_rfl) ?_)
          refine (hbd _ HT.out).mono ?_
          rintro e w5 ⟨rfl, hE⟩
          replace HW := Lib.hid (HW.out.trans hE)
          replace hb := hb.ext hE
          replace hc := hc.ext hE
          replace HT := Lib.hid (HT.out.ext hE)
          clear hE
          clear hbd
          go_wp2
          go_roundw
          case rel => exact ⟨3, by omega, by omega, rfl, HW.out⟩
          case measure => simp [intOf]
        · rw [hB2] at hbd
          go_wp2_with (refine wpList_load_blk (by rfl) 24 _ rfl rfl (by assumption) Tryd.underlying24 rfl (by kernel_rfl) ?_)
          refine (hbd _ HT.out).mono ?_
          rintro e w5 ⟨rfl, hE⟩
          replace HW := Lib.hid (HW.out.trans hE)
          replace hb := hb.ext hE
          replace hc := hc.ext hE
          replace HT := Lib.hid (HT.out.ext hE)
          clear hE
          clear hbd
          go_wp2
          go_roundw
          case rel => exact ⟨3, by omega, by omega, rfl, HW.out⟩
          case measure => simp [intOf]
      · have hbx := hb
        rw [ptC_eq] at hbx
        obtain ⟨b0, b1, b2, b3, b4, b5, b6, b7, b8, b9, b10⟩ := hbx.pt
        obtain ⟨-, c5, c6, c7, c8, -⟩ := hc.ptf
        have hlp := hb.lt
        have hlq := hc.lt
        clear hbx hlink
        go_wp2
        have hz := Blk.new wr 24 (ptC ⟨p.v, p.r, p.w, p.x, p.u, q.g, q.a, q.d, q.rs, p.pp, p.hi⟩)
        have hE := (Ext.refl wr).alloc (.cells (ptC ⟨p.v, p.r, p.w, p.x, p.u, q.g, q.a, q.d, q.rs, p.pp, p.hi⟩) 24)
        replace HW := Lib.hid (HW.out.trans hE)
        replace hb := hb.ext hE
        replace HT := Lib.hid (HT.out.ext hE)
        clear hE b0 b1 b2 b3 b4 b5 b6 b7 b8 b9 b10 c5 c6 c7 c8 hlp hlq hc
        have hX : Pt.ok ⟨p.v, p.r, p.w, p.x, p.u, q.g, q.a, q.d, q.rs, p.pp, p.hi⟩ := ⟨hq.1, hp.2.1, hp.2.2⟩
        have hbadx := bad_c ⟨p.v, p.r, p.w, p.x, p.u, q.g, q.a, q.d, q.rs, p.pp, p.hi⟩ hX
        generalize hW2 : wr.alloc (.cells (ptC ⟨p.v, p.r, p.w, p.x, p.u, q.g, q.a, q.d, q.rs, p.pp, p.hi⟩) 24) = W2 at hz hb HT HW
        rw [ptC_def] at hW2
        rw [hW2]
        clear hW2
        clear hX
        generalize (⟨p.v, p.r, p.w, p.x, p.u, q.g, q.a, q.d, q.rs, p.pp, p.hi⟩ : Pt) = X at hz hbadx flf
        go_loopw [7] (fun a W => ∃ l : Int, 0 ≤ l ∧ l ≤ 3 ∧ a = .int .i64 l ∧ Ext W2 W) (fun a _ => 3 - (intOf a).toNat)
        case atStart => exact ⟨0, by omega, by omega, rfl, Ext.refl _⟩
        case round =>
          obtain ⟨l, hl1, hl3, rfl, hEl⟩ := hrel
          replace hb := hb.ext hEl
          replace hz := hz.ext hEl
          replace HT := Lib.hid (HT.out.ext hEl)
          have HW0 := HW
          replace HW := Lib.hid hEl
          clear hEl
          by_cases hlt : l < 3
          · go_wp2_with fail
            replace hb := hb.drew
            replace hz := hz.drew
            replace HT := Lib.hid (HT.out.ext (Ext.refl _).drew)
            replace HW := Lib.hid HW.out.drew
            refine wp_region_seq [(0, false), (1, true), (2, false), (3, false), (4, false), (6, false), (7, false), (5, true), (8, true), (9, false), (10, false)] Ext (by kernel_rfl) (by kernel_rfl) Ext.refl (fun _ _ _ => Ext.trans) ?_; simp only [List.map, nth_z, nth_s]
            refine seq_load rfl rfl (fun x hx => Blk.ext (hb) hx) rfl Tryd.underlying24 (by kernel_rfl) (by rfl) ?_; intro K hK; simp only [Act.put, List.setIfInBounds_toArray, List.set_cons_zero, List.set_cons_succ]; refine hK _ ?_; clear hK K
            refine seq_call (hleaf _) rfl Tryd.func15 (by kernel_rfl) (by kernel_rfl) (by rfl) (by rfl) ?_; intro K hK; rintro e w' ⟨rfl, hE⟩; refine ⟨_, rfl, hE, ?_⟩; simp only [Act.put, List.setIfInBounds_toArray, List.set_cons_zero, List.set_cons_succ]; refine hK _ _ ?_; clear hK K; replace HW := Lib.hid (HW.out.trans hE); replace hb := hb.ext hE; replace hz := hz.ext hE; replace HT := Lib.hid (HT.out.ext hE); clear hE
            (repeat (first | (refine seq_skip (by rfl) ?_; intro K hK; simp only [Act.put, List.setIfInBounds_toArray, List.set_cons_zero, List.set_cons_succ]; refine hK _ ?_; clear hK K) | (refine seq_skipc (by rfl) ?_; intro K hK; simp only [Act.put, List.setIfInBounds_toArray, List.set_cons_zero, List.set_cons_succ]; refine hK _ ?_; clear hK K) | (refine seq_read (by rfl) (by rfl) ?_; intro K hK; go_big_quiet_op; first | go_big_quiet_on | (refine ⟨_, fun _ _ => rfl, ?_⟩; go_big_quiet_on))))
            first
              | refine seq_done ?_
              | skip
                have hbp := hbad l (by omega) (by omega)
                have hbq := hbadx l (by omega) (by omega)
                rw [flf.out trivial l] at hbq
                generalize badB p l = B at hbp hbq
                refine seq_load rfl rfl (fun x hx => Blk.ext (hb) hx) rfl Tryd.underlying24 (by kernel_rfl) (by rfl) ?_; intro K hK; simp only [Act.put, List.setIfInBounds_toArray, List.set_cons_zero, List.set_cons_succ]; refine hK _ ?_; clear hK K
                (repeat (first | (refine seq_skip (by rfl) ?_; intro K hK; simp only [Act.put, List.setIfInBounds_toArray, List.set_cons_zero, List.set_cons_succ]; refine hK _ ?_; clear hK K) | (refine seq_skipc (by rfl) ?_; intro K hK; simp only [Act.put, List.setIfInBounds_toArray, List.set_cons_zero, List.set_cons_succ]; refine hK _ ?_; clear hK K) | (refine seq_read (by rfl) (by rfl) ?_; intro K hK; go_big_quiet_op; first | go_big_quiet_on | (refine ⟨_, fun _ _ => rfl, ?_⟩; go_big_quiet_on))))
                refine seq_load rfl rfl (fun x hx => Blk.ext (hz) hx) rfl Tryd.underlying24 (by kernel_rfl) (by rfl) ?_; intro K hK; simp only [Act.put, List.setIfInBounds_toArray, List.set_cons_zero, List.set_cons_succ]; refine hK _ ?_; clear hK K
                (repeat (first | (refine seq_skip (by rfl) ?_; intro K hK; simp only [Act.put, List.setIfInBounds_toArray, List.set_cons_zero, List.set_cons_succ]; refine hK _ ?_; clear hK K) | (refine seq_skipc (by rfl) ?_; intro K hK; simp only [Act.put, List.setIfInBounds_toArray, List.set_cons_zero, List.set_cons_succ]; refine hK _ ?_; clear hK K) | (refine seq_read (by rfl) (by rfl) ?_; intro K hK; go_big_quiet_op; first | go_big_quiet_on | (refine ⟨_, fun _ _ => rfl, ?_⟩; go_big_quiet_on))))
                refine seq_call (hbp _ HT.out) rfl Tryd.func19 (by kernel_rfl) (by kernel_rfl) (by rfl) (by rfl) ?_; intro K hK; rintro e w' ⟨rfl, hE⟩; refine ⟨_, rfl, hE, ?_⟩; simp only [Act.put, List.setIfInBounds_toArray, List.set_cons_zero, List.set_cons_succ]; refine hK _ _ ?_; clear hK K; replace HW := Lib.hid (HW.out.trans hE); replace hb := hb.ext hE; replace hz := hz.ext hE; replace HT := Lib.hid (HT.out.ext hE); clear hE
                refine seq_call (hbq _ HT.out) rfl Tryd.func19 (by kernel_rfl) (by kernel_rfl) (by rfl) (by rfl) ?_; intro K hK; rintro e w' ⟨rfl, hE⟩; refine ⟨_, rfl, hE, ?_⟩; simp only [Act.put, List.setIfInBounds_toArray, List.set_cons_zero, List.set_cons_succ]; refine hK _ _ ?_; clear hK K; replace HW := Lib.hid (HW.out.trans hE); replace hb := hb.ext hE; replace hz := hz.ext hE; replace HT := Lib.hid (HT.out.ext hE); clear hE
                clear hbp hbq
                (repeat (first | (refine seq_skip (by rfl) ?_; intro K hK; simp only [Act.put, List.setIfInBounds_toArray, List.set_cons_zero, List.set_cons_succ]; refine hK _ ?_; clear hK K) | (refine seq_skipc (by rfl) ?_; intro K hK; simp only [Act.put, List.setIfInBounds_toArray, List.set_cons_zero, List.set_cons_succ]; refine hK _ ?_; clear hK K) | (refine seq_read (by rfl) (by rfl) ?_; intro K hK; go_big_quiet_op; first | go_big_quiet_on | (refine ⟨_, fun _ _ => rfl, ?_⟩; go_big_quiet_on))))
                refine seq_done ?_
            go_wp2
            go_roundw
            case rel => exact ⟨l + 1, by omega, by omega, by go_num, HW.out⟩
            case measure => simp [intOf]; omega
          · obtain rfl : l = 3 := by omega
            clear hbad hbadx hleaf flf f10 f21 HT hz hlt hl1 hl3
            go_wp2_with fail
            replace hb := hb.drew
            have hlp : w.heap.size < wr.heap.size := hb.lt
            replace HW := Lib.hid (HW0.out.trans HW.out.drew)
            clear HW0
            obtain ⟨-, b5, -, -, -, b9⟩ := hb.ptf
            refine wp_region_fork2 [(0, false), (1, false), (2, false), (4, false), (5, false)] 3 [] 6 [(7, true), (8, true)] 7 [(6, true), (8, true)] 7 [(3, true), (6, true), (8, true)] (Below wr.heap.size) (by kernel_rfl) (by kernel_rfl) (Below.refl _) (fun _ _ _ => Below.trans) ?_
            simp only [List.map, nth_z, nth_s]
            (repeat (first | (refine seq_skip (by rfl) ?_; intro K hK; simp only [Act.put, List.setIfInBounds_toArray, List.set_cons_zero, List.set_cons_succ]; refine hK _ ?_; clear hK K) | (refine seq_skipc (by rfl) ?_; intro K hK; simp only [Act.put, List.setIfInBounds_toArray, List.set_cons_zero, List.set_cons_succ]; refine hK _ ?_; clear hK K) | (refine seq_read (by rfl) (by rfl) ?_; intro K hK; go_big_quiet_op; first | go_big_quiet_on | (refine ⟨_, fun _ _ => rfl, ?_⟩; go_big_quiet_on))))
            refine seq_value (.int .u64 (p.pp : Int)) (by rfl) (fun x hx => by have hq := (Below.cell hx (p := ⟨w.heap.size, 9, none⟩) (by simp; omega)).trans (b9); simp [go_sem, execOp, Act.eval, hq]) ?_; intro K hK; simp only [Act.put, List.setIfInBounds_toArray, List.set_cons_zero, List.set_cons_succ]; refine hK _ ?_; clear hK K
            refine seq_load rfl rfl (fun x hx => Blk.lower (hb) hx (by omega)) rfl Tryd.underlying24 (by kernel_rfl) (by rfl) ?_; intro K hK; simp only [Act.put, List.setIfInBounds_toArray, List.set_cons_zero, List.set_cons_succ]; refine hK _ ?_; clear hK K
            (repeat (first | (refine seq_skip (by rfl) ?_; intro K hK; simp only [Act.put, List.setIfInBounds_toArray, List.set_cons_zero, List.set_cons_succ]; refine hK _ ?_; clear hK K) | (refine seq_skipc (by rfl) ?_; intro K hK; simp only [Act.put, List.setIfInBounds_toArray, List.set_cons_zero, List.set_cons_succ]; refine hK _ ?_; clear hK K) | (refine seq_read (by rfl) (by rfl) ?_; intro K hK; go_big_quiet_op; first | go_big_quiet_on | (refine ⟨_, fun _ _ => rfl, ?_⟩; go_big_quiet_on))))
            refine seq_value (.bool p.g) (by rfl) (fun x hx => by have hq := (Below.cell hx (p := ⟨w.heap.size, 5, none⟩) (by simp; omega)).trans (b5); simp [go_sem, execOp, Act.eval, hq]) ?_; intro K hK; simp only [Act.put, List.setIfInBounds_toArray, List.set_cons_zero, List.set_cons_succ]; refine hK _ ?_; clear hK K
            clear b5 b9
            refine seq_done ?_
            have hw0 : wr.drew.heap.size = wr.heap.size := rfl
            have hs0 : wr.heap.size ≤ wr.drew.heap.size := Nat.le_refl _
            generalize wr.drew = wd at hb HW hw0 hs0 ⊢
            generalize hBB : wr.heap.size = B at hlp hs0 hw0 ⊢
            refine ⟨?_, ?_⟩
            · refine seq_call (perm_c p _) rfl Tryd.func23 (by kernel_rfl) (by kernel_rfl) (by rfl) (by rfl) ?_; intro K hK; rintro e w' ⟨rfl, hE⟩; refine ⟨_, rfl, (ext_below hE hs0), ?_⟩; simp only [Act.put, List.setIfInBounds_toArray, List.set_cons_zero, List.set_cons_succ]; refine hK _ _ ?_; clear hK K
              replace HW := Lib.hid (HW.out.trans hE)
              replace hb := hb.ext hE
              replace hs0 := Nat.le_trans hs0 hE.size
              clear hE
              refine seq_done ?_
              refine seq_done ?_
              refine ⟨?_, ?_⟩
              · refine seq_call (make_c p.pp (permP p) p.g _) rfl Tryd.func21 (by kernel_rfl) (by kernel_rfl) (by rfl) (by rfl) ?_; intro K hK; rintro e w' ⟨rfl, hE⟩; refine ⟨_, rfl, (ext_below hE hs0), ?_⟩; simp only [Act.put, List.setIfInBounds_toArray, List.set_cons_zero, List.set_cons_succ]; refine hK _ _ ?_; clear hK K
                replace HW := Lib.hid (HW.out.trans hE)
                replace hb := hb.ext hE
                replace hs0 := Nat.le_trans hs0 hE.size
                clear hE
                refine seq_done ?_
                have hn := Blk.new w' 24 #[.bool false, .bool false, .bool false, .bool false, .bool false, .bool false, .bool false, .bool false, .int .u64 0, .int .u64 0, .int .u64 0]
                have hlt := hb.lt
                refine seq_run (.pointer (some ⟨(w').heap.size, 0, none⟩)) ((w').alloc (.cells #[.bool false, .bool false, .bool false, .bool false, .bool false, .bool false, .bool false, .bool false, .int .u64 0, .int .u64 0, .int .u64 0] 24)) (by rfl) ?_ ((Below.refl _ _).alloc hs0 _) ?_; (simp [go_sem, execOp, Act.eval]); intro K hK; simp only [Act.put, List.setIfInBounds_toArray, List.set_cons_zero, List.set_cons_succ]; refine hK _ _ ?_; clear hK K
                refine seq_store_row rfl rfl rfl (hn) (pt_info _) (by simp [ptC_size]) (ptC_one _) (by rfl) ((below_row (Below.refl _ _) hs0 _)) ?_; intro K hK; simp only [Act.put, List.setIfInBounds_toArray, List.set_cons_zero, List.set_cons_succ]; refine hK _ _ ?_; clear hK K
                refine seq_done ?_
                have hm := hn.row (ptC (makeP p.pp (permP p) p.g))
                replace hb := (hb.alloc (.cells #[.bool false, .bool false, .bool false, .bool false, .bool false, .bool false, .bool false, .bool false, .int .u64 0, .int .u64 0, .int .u64 0] 24)).apart (k := w'.heap.size) (by omega) (ptC (makeP p.pp (permP p) p.g))
                replace HW := Lib.hid (Ext.row (HW.out.alloc (.cells #[.bool false, .bool false, .bool false, .bool false, .bool false, .bool false, .bool false, .bool false, .int .u64 0, .int .u64 0, .int .u64 0] 24)) HW.out.size (ptC (makeP p.pp (permP p) p.g)))
                generalize (w'.alloc (.cells #[.bool false, .bool false, .bool false, .bool false, .bool false, .bool false, .bool false, .bool false, .int .u64 0, .int .u64 0, .int .u64 0] 24)).setRow w'.heap.size (ptC (makeP p.pp (permP p) p.g)) = wf at hb hm HW ⊢
                have hpm := fun w => perm_c (makeP p.pp (permP p) p.g) w
                rw [perm_make] at hpm
                go_wp2_with fail
                replace hb := hb.drew
                replace hm := hm.drew
                replace HW := Lib.hid HW.out.drew
                refine wp_region_seq [(0, false), (2, false), (1, true), (3, true), (4, false), (5, false), (6, false), (7, false), (8, false), (9, false), (10, false), (11, false), (12, false), (13, false), (14, false), (15, false), (16, false), (17, false), (18, false), (19, false), (20, false), (21, false), (22, false), (23, false), (24, false), (25, false), (26, false), (27, false), (28, false), (29, false), (30, false), (31, false), (32, false), (33, false)] Ext (by kernel_rfl) (by kernel_rfl) Ext.refl (fun _ _ _ => Ext.trans) ?_; simp only [List.map, nth_z, nth_s]
                refine seq_load rfl rfl (fun x hx => Blk.ext (hm) hx) rfl Tryd.underlying24 (by kernel_rfl) (by rfl) ?_; intro K hK; simp only [Act.put, List.setIfInBounds_toArray, List.set_cons_zero, List.set_cons_succ]; refine hK _ ?_; clear hK K
                refine seq_load rfl rfl (fun x hx => Blk.ext (hb) hx) rfl Tryd.underlying24 (by kernel_rfl) (by rfl) ?_; intro K hK; simp only [Act.put, List.setIfInBounds_toArray, List.set_cons_zero, List.set_cons_succ]; refine hK _ ?_; clear hK K
                refine seq_call (hpm _) rfl Tryd.func23 (by kernel_rfl) (by kernel_rfl) (by rfl) (by rfl) ?_; intro K hK; rintro e w' ⟨rfl, hE⟩; refine ⟨_, rfl, hE, ?_⟩; simp only [Act.put, List.setIfInBounds_toArray, List.set_cons_zero, List.set_cons_succ]; refine hK _ _ ?_; clear hK K; replace HW := Lib.hid (HW.out.trans hE); replace hb := hb.ext hE; replace hm := hm.ext hE; clear hE
                refine seq_call (perm_c p _) rfl Tryd.func23 (by kernel_rfl) (by kernel_rfl) (by rfl) (by rfl) ?_; intro K hK; rintro e w' ⟨rfl, hE⟩; refine ⟨_, rfl, hE, ?_⟩; simp only [Act.put, List.setIfInBounds_toArray, List.set_cons_zero, List.set_cons_succ]; refine hK _ _ ?_; clear hK K; replace HW := Lib.hid (HW.out.trans hE); replace hb := hb.ext hE; replace hm := hm.ext hE; clear hE
                clear hpm
                obtain ⟨-, b5, -, -, -, b9⟩ := hb.ptf
                obtain ⟨m0, m5, m6, m7, m9⟩ := hm.made
                clear hb hm
                refine seq_value (.bool true) (by rfl) (fun x hx => by simp [go_sem, execOp, Act.eval, eql_perm, run_eqGuard_agg _ _ _ _ _ _ _ pte_guard, run_eqGuard_agg _ _ _ _ _ _ _ perm_guard]) ?_; intro K hK; simp only [Act.put, List.setIfInBounds_toArray, List.set_cons_zero, List.set_cons_succ]; refine hK _ ?_; clear hK K
                (repeat (first | (refine seq_skip (by rfl) ?_; intro K hK; simp only [Act.put, List.setIfInBounds_toArray, List.set_cons_zero, List.set_cons_succ]; refine hK _ ?_; clear hK K) | (refine seq_skipc (by rfl) ?_; intro K hK; simp only [Act.put, List.setIfInBounds_toArray, List.set_cons_zero, List.set_cons_succ]; refine hK _ ?_; clear hK K) | (refine seq_read (by rfl) (by rfl) ?_; intro K hK; go_big_quiet_op; first | go_big_quiet_on | (refine ⟨_, fun _ _ => rfl, ?_⟩; go_big_quiet_on))))
                refine seq_value (.bool true) (by rfl) (fun x hx => by have hq := ext_cell hx (m0); simp [go_sem, execOp, Act.eval, hq]) ?_; intro K hK; simp only [Act.put, List.setIfInBounds_toArray, List.set_cons_zero, List.set_cons_succ]; refine hK _ ?_; clear hK K
                (repeat (first | (refine seq_skip (by rfl) ?_; intro K hK; simp only [Act.put, List.setIfInBounds_toArray, List.set_cons_zero, List.set_cons_succ]; refine hK _ ?_; clear hK K) | (refine seq_skipc (by rfl) ?_; intro K hK; simp only [Act.put, List.setIfInBounds_toArray, List.set_cons_zero, List.set_cons_succ]; refine hK _ ?_; clear hK K) | (refine seq_read (by rfl) (by rfl) ?_; intro K hK; go_big_quiet_op; first | go_big_quiet_on | (refine ⟨_, fun _ _ => rfl, ?_⟩; go_big_quiet_on))))
                refine seq_value (.int .u64 (p.pp : Int)) (by rfl) (fun x hx => by have hq := ext_cell hx (m9); simp [go_sem, execOp, Act.eval, hq]) ?_; intro K hK; simp only [Act.put, List.setIfInBounds_toArray, List.set_cons_zero, List.set_cons_succ]; refine hK _ ?_; clear hK K
                (repeat (first | (refine seq_skip (by rfl) ?_; intro K hK; simp only [Act.put, List.setIfInBounds_toArray, List.set_cons_zero, List.set_cons_succ]; refine hK _ ?_; clear hK K) | (refine seq_skipc (by rfl) ?_; intro K hK; simp only [Act.put, List.setIfInBounds_toArray, List.set_cons_zero, List.set_cons_succ]; refine hK _ ?_; clear hK K) | (refine seq_read (by rfl) (by rfl) ?_; intro K hK; go_big_quiet_op; first | go_big_quiet_on | (refine ⟨_, fun _ _ => rfl, ?_⟩; go_big_quiet_on))))
                refine seq_value (.int .u64 (p.pp : Int)) (by rfl) (fun x hx => by have hq := ext_cell hx (b9); simp [go_sem, execOp, Act.eval, hq]) ?_; intro K hK; simp only [Act.put, List.setIfInBounds_toArray, List.set_cons_zero, List.set_cons_succ]; refine hK _ ?_; clear hK K
                (repeat (first | (refine seq_skip (by rfl) ?_; intro K hK; simp only [Act.put, List.setIfInBounds_toArray, List.set_cons_zero, List.set_cons_succ]; refine hK _ ?_; clear hK K) | (refine seq_skipc (by rfl) ?_; intro K hK; simp only [Act.put, List.setIfInBounds_toArray, List.set_cons_zero, List.set_cons_succ]; refine hK _ ?_; clear hK K) | (refine seq_read (by rfl) (by rfl) ?_; intro K hK; go_big_quiet_op; first | go_big_quiet_on | (refine ⟨_, fun _ _ => rfl, ?_⟩; go_big_quiet_on))))
                refine seq_value (.bool p.g) (by rfl) (fun x hx => by have hq := ext_cell hx (m5); simp [go_sem, execOp, Act.eval, hq]) ?_; intro K hK; simp only [Act.put, List.setIfInBounds_toArray, List.set_cons_zero, List.set_cons_succ]; refine hK _ ?_; clear hK K
                (repeat (first | (refine seq_skip (by rfl) ?_; intro K hK; simp only [Act.put, List.setIfInBounds_toArray, List.set_cons_zero, List.set_cons_succ]; refine hK _ ?_; clear hK K) | (refine seq_skipc (by rfl) ?_; intro K hK; simp only [Act.put, List.setIfInBounds_toArray, List.set_cons_zero, List.set_cons_succ]; refine hK _ ?_; clear hK K) | (refine seq_read (by rfl) (by rfl) ?_; intro K hK; go_big_quiet_op; first | go_big_quiet_on | (refine ⟨_, fun _ _ => rfl, ?_⟩; go_big_quiet_on))))
                refine seq_value (.bool p.g) (by rfl) (fun x hx => by have hq := ext_cell hx (b5); simp [go_sem, execOp, Act.eval, hq]) ?_; intro K hK; simp only [Act.put, List.setIfInBounds_toArray, List.set_cons_zero, List.set_cons_succ]; refine hK _ ?_; clear hK K
                (repeat (first | (refine seq_skip (by rfl) ?_; intro K hK; simp only [Act.put, List.setIfInBounds_toArray, List.set_cons_zero, List.set_cons_succ]; refine hK _ ?_; clear hK K) | (refine seq_skipc (by rfl) ?_; intro K hK; simp only [Act.put, List.setIfInBounds_toArray, List.set_cons_zero, List.set_cons_succ]; refine hK _ ?_; clear hK K) | (refine seq_read (by rfl) (by rfl) ?_; intro K hK; go_big_quiet_op; first | go_big_quiet_on | (refine ⟨_, fun _ _ => rfl, ?_⟩; go_big_quiet_on))))
                refine seq_value (.bool false) (by rfl) (fun x hx => by have hq := ext_cell hx (m6); simp [go_sem, execOp, Act.eval, hq]) ?_; intro K hK; simp only [Act.put, List.setIfInBounds_toArray, List.set_cons_zero, List.set_cons_succ]; refine hK _ ?_; clear hK K
                (repeat (first | (refine seq_skip (by rfl) ?_; intro K hK; simp only [Act.put, List.setIfInBounds_toArray, List.set_cons_zero, List.set_cons_succ]; refine hK _ ?_; clear hK K) | (refine seq_skipc (by rfl) ?_; intro K hK; simp only [Act.put, List.setIfInBounds_toArray, List.set_cons_zero, List.set_cons_succ]; refine hK _ ?_; clear hK K) | (refine seq_read (by rfl) (by rfl) ?_; intro K hK; go_big_quiet_op; first | go_big_quiet_on | (refine ⟨_, fun _ _ => rfl, ?_⟩; go_big_quiet_on))))
                refine seq_value (.bool false) (by rfl) (fun x hx => by have hq := ext_cell hx (m7); simp [go_sem, execOp, Act.eval, hq]) ?_; intro K hK; simp only [Act.put, List.setIfInBounds_toArray, List.set_cons_zero, List.set_cons_succ]; refine hK _ ?_; clear hK K
                (repeat (first | (refine seq_skip (by rfl) ?_; intro K hK; simp only [Act.put, List.setIfInBounds_toArray, List.set_cons_zero, List.set_cons_succ]; refine hK _ ?_; clear hK K) | (refine seq_skipc (by rfl) ?_; intro K hK; simp only [Act.put, List.setIfInBounds_toArray, List.set_cons_zero, List.set_cons_succ]; refine hK _ ?_; clear hK K) | (refine seq_read (by rfl) (by rfl) ?_; intro K hK; go_big_quiet_op; first | go_big_quiet_on | (refine ⟨_, fun _ _ => rfl, ?_⟩; go_big_quiet_on))))
                refine seq_done ?_
                clear b5 b9 m0 m5 m6 m7 m9
                go_wp2
                go_ret
                exact ⟨rfl, HE.out.trans HW.out⟩
              · have hn := Blk.new w' 24 #[.bool false, .bool false, .bool false, .bool false, .bool false, .bool false, .bool false, .bool false, .int .u64 0, .int .u64 0, .int .u64 0]
                have hlt := hb.lt
                replace hb := hb.alloc (.cells #[.bool false, .bool false, .bool false, .bool false, .bool false, .bool false, .bool false, .bool false, .int .u64 0, .int .u64 0, .int .u64 0] 24)
                obtain ⟨g, hg⟩ : ∃ g, g = w'.heap.size := ⟨_, rfl⟩
                have hs1 : B ≤ (w'.alloc (.cells #[.bool false, .bool false, .bool false, .bool false, .bool false, .bool false, .bool false, .bool false, .int .u64 0, .int .u64 0, .int .u64 0] 24)).heap.size := by simp; omega
                have hg0 : g < (w'.alloc (.cells #[.bool false, .bool false, .bool false, .bool false, .bool false, .bool false, .bool false, .bool false, .int .u64 0, .int .u64 0, .int .u64 0] 24)).heap.size := by simp; omega
                have HO := Lib.hid (show _ ≤ g from hg ▸ HW.out.size)
                replace HW := Lib.hid (HW.out.alloc (.cells #[.bool false, .bool false, .bool false, .bool false, .bool false, .bool false, .bool false, .bool false, .int .u64 0, .int .u64 0, .int .u64 0] 24))
                refine seq_run (.pointer (some ⟨(w').heap.size, 0, none⟩)) ((w').alloc (.cells #[.bool false, .bool false, .bool false, .bool false, .bool false, .bool false, .bool false, .bool false, .int .u64 0, .int .u64 0, .int .u64 0] 24)) (by rfl) ?_ ((Below.refl _ _).alloc hs0 _) ?_; (simp [go_sem, execOp, Act.eval]); intro K hK; simp only [Act.put, List.setIfInBounds_toArray, List.set_cons_zero, List.set_cons_succ]; refine hK _ _ ?_; clear hK K
                rw [← hg] at hn hlt hs0 ⊢
                clear hg
                refine seq_done ?_
                generalize w'.alloc (.cells #[.bool false, .bool false, .bool false, .bool false, .bool false, .bool false, .bool false, .bool false, .int .u64 0, .int .u64 0, .int .u64 0] 24) = wa at hb hn HW hs1 hg0 ⊢
                refine seq_call (make_c p.pp (permP p) p.g _) rfl Tryd.func21 (by kernel_rfl) (by kernel_rfl) (by rfl) (by rfl) ?_; intro K hK; rintro e w' ⟨rfl, hE⟩; refine ⟨_, rfl, (ext_below hE hs1), ?_⟩; simp only [Act.put, List.setIfInBounds_toArray, List.set_cons_zero, List.set_cons_succ]; refine hK _ _ ?_; clear hK K
                replace HW := Lib.hid (HW.out.trans hE)
                replace hb := hb.ext hE
                replace hn := hn.ext hE
                clear hE
                refine seq_store_row rfl rfl rfl (hn) (pt_info _) (by simp [ptC_size]) (ptC_one _) (by rfl) ((below_row (Below.refl _ _) hs0 _)) ?_; intro K hK; simp only [Act.put, List.setIfInBounds_toArray, List.set_cons_zero, List.set_cons_succ]; refine hK _ _ ?_; clear hK K
                refine seq_done ?_
                have hm := hn.row (ptC (makeP p.pp (permP p) p.g))
                replace hb := hb.apart (k := g) (by omega) (ptC (makeP p.pp (permP p) p.g))
                replace HW := Lib.hid (Ext.row HW.out HO.out (ptC (makeP p.pp (permP p) p.g)))
                generalize w'.setRow g (ptC (makeP p.pp (permP p) p.g)) = wf at hb hm HW ⊢
                have hpm := fun w => perm_c (makeP p.pp (permP p) p.g) w
                rw [perm_make] at hpm
                go_wp2_with fail
                replace hb := hb.drew
                replace hm := hm.drew
                replace HW := Lib.hid HW.out.drew
                refine wp_region_seq [(0, false), (2, false), (1, true), (3, true), (4, false), (5, false), (6, false), (7, false), (8, false), (9, false), (10, false), (11, false), (12, false), (13, false), (14, false), (15, false), (16, false), (17, false), (18, false), (19, false), (20, false), (21, false), (22, false), (23, false), (24, false), (25, false), (26, false), (27, false), (28, false), (29, false), (30, false), (31, false), (32, false), (33, false)] Ext (by kernel_rfl) (by kernel_rfl) Ext.refl (fun _ _ _ => Ext.trans) ?_; simp only [List.map, nth_z, nth_s]
                refine seq_load rfl rfl (fun x hx => Blk.ext (hm) hx) rfl Tryd.underlying24 (by kernel_rfl) (by rfl) ?_; intro K hK; simp only [Act.put, List.setIfInBounds_toArray, List.set_cons_zero, List.set_cons_succ]; refine hK _ ?_; clear hK K
                refine seq_load rfl rfl (fun x hx => Blk.ext (hb) hx) rfl Tryd.underlying24 (by kernel_rfl) (by rfl) ?_; intro K hK; simp only [Act.put, List.setIfInBounds_toArray, List.set_cons_zero, List.set_cons_succ]; refine hK _ ?_; clear hK K
                refine seq_call (hpm _) rfl Tryd.func23 (by kernel_rfl) (by kernel_rfl) (by rfl) (by rfl) ?_; intro K hK; rintro e w' ⟨rfl, hE⟩; refine ⟨_, rfl, hE, ?_⟩; simp only [Act.put, List.setIfInBounds_toArray, List.set_cons_zero, List.set_cons_succ]; refine hK _ _ ?_; clear hK K; replace HW := Lib.hid (HW.out.trans hE); replace hb := hb.ext hE; replace hm := hm.ext hE; clear hE
                refine seq_call (perm_c p _) rfl Tryd.func23 (by kernel_rfl) (by kernel_rfl) (by rfl) (by rfl) ?_; intro K hK; rintro e w' ⟨rfl, hE⟩; refine ⟨_, rfl, hE, ?_⟩; simp only [Act.put, List.setIfInBounds_toArray, List.set_cons_zero, List.set_cons_succ]; refine hK _ _ ?_; clear hK K; replace HW := Lib.hid (HW.out.trans hE); replace hb := hb.ext hE; replace hm := hm.ext hE; clear hE
                clear hpm
                obtain ⟨-, b5, -, -, -, b9⟩ := hb.ptf
                obtain ⟨m0, m5, m6, m7, m9⟩ := hm.made
                clear hb hm
                refine seq_value (.bool true) (by rfl) (fun x hx => by simp [go_sem, execOp, Act.eval, eql_perm, run_eqGuard_agg _ _ _ _ _ _ _ pte_guard, run_eqGuard_agg _ _ _ _ _ _ _ perm_guard]) ?_; intro K hK; simp only [Act.put, List.setIfInBounds_toArray, List.set_cons_zero, List.set_cons_succ]; refine hK _ ?_; clear hK K
                (repeat (first | (refine seq_skip (by rfl) ?_; intro K hK; simp only [Act.put, List.setIfInBounds_toArray, List.set_cons_zero, List.set_cons_succ]; refine hK _ ?_; clear hK K) | (refine seq_skipc (by rfl) ?_; intro K hK; simp only [Act.put, List.setIfInBounds_toArray, List.set_cons_zero, List.set_cons_succ]; refine hK _ ?_; clear hK K) | (refine seq_read (by rfl) (by rfl) ?_; intro K hK; go_big_quiet_op; first | go_big_quiet_on | (refine ⟨_, fun _ _ => rfl, ?_⟩; go_big_quiet_on))))
                refine seq_value (.bool true) (by rfl) (fun x hx => by have hq := ext_cell hx (m0); simp [go_sem, execOp, Act.eval, hq]) ?_; intro K hK; simp only [Act.put, List.setIfInBounds_toArray, List.set_cons_zero, List.set_cons_succ]; refine hK _ ?_; clear hK K
                (repeat (first | (refine seq_skip (by rfl) ?_; intro K hK; simp only [Act.put, List.setIfInBounds_toArray, List.set_cons_zero, List.set_cons_succ]; refine hK _ ?_; clear hK K) | (refine seq_skipc (by rfl) ?_; intro K hK; simp only [Act.put, List.setIfInBounds_toArray, List.set_cons_zero, List.set_cons_succ]; refine hK _ ?_; clear hK K) | (refine seq_read (by rfl) (by rfl) ?_; intro K hK; go_big_quiet_op; first | go_big_quiet_on | (refine ⟨_, fun _ _ => rfl, ?_⟩; go_big_quiet_on))))
                refine seq_value (.int .u64 (p.pp : Int)) (by rfl) (fun x hx => by have hq := ext_cell hx (m9); simp [go_sem, execOp, Act.eval, hq]) ?_; intro K hK; simp only [Act.put, List.setIfInBounds_toArray, List.set_cons_zero, List.set_cons_succ]; refine hK _ ?_; clear hK K
                (repeat (first | (refine seq_skip (by rfl) ?_; intro K hK; simp only [Act.put, List.setIfInBounds_toArray, List.set_cons_zero, List.set_cons_succ]; refine hK _ ?_; clear hK K) | (refine seq_skipc (by rfl) ?_; intro K hK; simp only [Act.put, List.setIfInBounds_toArray, List.set_cons_zero, List.set_cons_succ]; refine hK _ ?_; clear hK K) | (refine seq_read (by rfl) (by rfl) ?_; intro K hK; go_big_quiet_op; first | go_big_quiet_on | (refine ⟨_, fun _ _ => rfl, ?_⟩; go_big_quiet_on))))
                refine seq_value (.int .u64 (p.pp : Int)) (by rfl) (fun x hx => by have hq := ext_cell hx (b9); simp [go_sem, execOp, Act.eval, hq]) ?_; intro K hK; simp only [Act.put, List.setIfInBounds_toArray, List.set_cons_zero, List.set_cons_succ]; refine hK _ ?_; clear hK K
                (repeat (first | (refine seq_skip (by rfl) ?_; intro K hK; simp only [Act.put, List.setIfInBounds_toArray, List.set_cons_zero, List.set_cons_succ]; refine hK _ ?_; clear hK K) | (refine seq_skipc (by rfl) ?_; intro K hK; simp only [Act.put, List.setIfInBounds_toArray, List.set_cons_zero, List.set_cons_succ]; refine hK _ ?_; clear hK K) | (refine seq_read (by rfl) (by rfl) ?_; intro K hK; go_big_quiet_op; first | go_big_quiet_on | (refine ⟨_, fun _ _ => rfl, ?_⟩; go_big_quiet_on))))
                refine seq_value (.bool p.g) (by rfl) (fun x hx => by have hq := ext_cell hx (m5); simp [go_sem, execOp, Act.eval, hq]) ?_; intro K hK; simp only [Act.put, List.setIfInBounds_toArray, List.set_cons_zero, List.set_cons_succ]; refine hK _ ?_; clear hK K
                (repeat (first | (refine seq_skip (by rfl) ?_; intro K hK; simp only [Act.put, List.setIfInBounds_toArray, List.set_cons_zero, List.set_cons_succ]; refine hK _ ?_; clear hK K) | (refine seq_skipc (by rfl) ?_; intro K hK; simp only [Act.put, List.setIfInBounds_toArray, List.set_cons_zero, List.set_cons_succ]; refine hK _ ?_; clear hK K) | (refine seq_read (by rfl) (by rfl) ?_; intro K hK; go_big_quiet_op; first | go_big_quiet_on | (refine ⟨_, fun _ _ => rfl, ?_⟩; go_big_quiet_on))))
                refine seq_value (.bool p.g) (by rfl) (fun x hx => by have hq := ext_cell hx (b5); simp [go_sem, execOp, Act.eval, hq]) ?_; intro K hK; simp only [Act.put, List.setIfInBounds_toArray, List.set_cons_zero, List.set_cons_succ]; refine hK _ ?_; clear hK K
                (repeat (first | (refine seq_skip (by rfl) ?_; intro K hK; simp only [Act.put, List.setIfInBounds_toArray, List.set_cons_zero, List.set_cons_succ]; refine hK _ ?_; clear hK K) | (refine seq_skipc (by rfl) ?_; intro K hK; simp only [Act.put, List.setIfInBounds_toArray, List.set_cons_zero, List.set_cons_succ]; refine hK _ ?_; clear hK K) | (refine seq_read (by rfl) (by rfl) ?_; intro K hK; go_big_quiet_op; first | go_big_quiet_on | (refine ⟨_, fun _ _ => rfl, ?_⟩; go_big_quiet_on))))
                refine seq_value (.bool false) (by rfl) (fun x hx => by have hq := ext_cell hx (m6); simp [go_sem, execOp, Act.eval, hq]) ?_; intro K hK; simp only [Act.put, List.setIfInBounds_toArray, List.set_cons_zero, List.set_cons_succ]; refine hK _ ?_; clear hK K
                (repeat (first | (refine seq_skip (by rfl) ?_; intro K hK; simp only [Act.put, List.setIfInBounds_toArray, List.set_cons_zero, List.set_cons_succ]; refine hK _ ?_; clear hK K) | (refine seq_skipc (by rfl) ?_; intro K hK; simp only [Act.put, List.setIfInBounds_toArray, List.set_cons_zero, List.set_cons_succ]; refine hK _ ?_; clear hK K) | (refine seq_read (by rfl) (by rfl) ?_; intro K hK; go_big_quiet_op; first | go_big_quiet_on | (refine ⟨_, fun _ _ => rfl, ?_⟩; go_big_quiet_on))))
                refine seq_value (.bool false) (by rfl) (fun x hx => by have hq := ext_cell hx (m7); simp [go_sem, execOp, Act.eval, hq]) ?_; intro K hK; simp only [Act.put, List.setIfInBounds_toArray, List.set_cons_zero, List.set_cons_succ]; refine hK _ ?_; clear hK K
                (repeat (first | (refine seq_skip (by rfl) ?_; intro K hK; simp only [Act.put, List.setIfInBounds_toArray, List.set_cons_zero, List.set_cons_succ]; refine hK _ ?_; clear hK K) | (refine seq_skipc (by rfl) ?_; intro K hK; simp only [Act.put, List.setIfInBounds_toArray, List.set_cons_zero, List.set_cons_succ]; refine hK _ ?_; clear hK K) | (refine seq_read (by rfl) (by rfl) ?_; intro K hK; go_big_quiet_op; first | go_big_quiet_on | (refine ⟨_, fun _ _ => rfl, ?_⟩; go_big_quiet_on))))
                refine seq_done ?_
                clear b5 b9 m0 m5 m6 m7 m9
                go_wp2
                go_ret
                exact ⟨rfl, HE.out.trans HW.out⟩
            · have hn := Blk.new wd 24 #[.bool false, .bool false, .bool false, .bool false, .bool false, .bool false, .bool false, .bool false, .int .u64 0, .int .u64 0, .int .u64 0]
              have hlt := hb.lt
              replace hb := hb.alloc (.cells #[.bool false, .bool false, .bool false, .bool false, .bool false, .bool false, .bool false, .bool false, .int .u64 0, .int .u64 0, .int .u64 0] 24)
              obtain ⟨g, hg⟩ : ∃ g, g = wd.heap.size := ⟨_, rfl⟩
              have hs1 : B ≤ (wd.alloc (.cells #[.bool false, .bool false, .bool false, .bool false, .bool false, .bool false, .bool false, .bool false, .int .u64 0, .int .u64 0, .int .u64 0] 24)).heap.size := by simp; omega
              have HO := Lib.hid (show _ ≤ g from hg ▸ HW.out.size)
              replace HW := Lib.hid (HW.out.alloc (.cells #[.bool false, .bool false, .bool false, .bool false, .bool false, .bool false, .bool false, .bool false, .int .u64 0, .int .u64 0, .int .u64 0] 24))
              refine seq_run (.pointer (some ⟨(wd).heap.size, 0, none⟩)) ((wd).alloc (.cells #[.bool false, .bool false, .bool false, .bool false, .bool false, .bool false, .bool false, .bool false, .int .u64 0, .int .u64 0, .int .u64 0] 24)) (by rfl) ?_ ((Below.refl _ _).alloc hs0 _) ?_; (simp [go_sem, execOp, Act.eval]); intro K hK; simp only [Act.put, List.setIfInBounds_toArray, List.set_cons_zero, List.set_cons_succ]; refine hK _ _ ?_; clear hK K
              rw [← hg] at hn hlt hs0 ⊢
              clear hg
              refine seq_done ?_
              generalize wd.alloc (.cells #[.bool false, .bool false, .bool false, .bool false, .bool false, .bool false, .bool false, .bool false, .int .u64 0, .int .u64 0, .int .u64 0] 24) = wa at hb hn HW hs1 ⊢
              refine seq_call (perm_c p _) rfl Tryd.func23 (by kernel_rfl) (by kernel_rfl) (by rfl) (by rfl) ?_; intro K hK; rintro e w' ⟨rfl, hE⟩; refine ⟨_, rfl, (ext_below hE hs1), ?_⟩; simp only [Act.put, List.setIfInBounds_toArray, List.set_cons_zero, List.set_cons_succ]; refine hK _ _ ?_; clear hK K
              replace HW := Lib.hid (HW.out.trans hE)
              replace hb := hb.ext hE
              replace hn := hn.ext hE
              replace hs1 := Nat.le_trans hs1 hE.size
              clear hE
              refine seq_call (make_c p.pp (permP p) p.g _) rfl Tryd.func21 (by kernel_rfl) (by kernel_rfl) (by rfl) (by rfl) ?_; intro K hK; rintro e w' ⟨rfl, hE⟩; refine ⟨_, rfl, (ext_below hE hs1), ?_⟩; simp only [Act.put, List.setIfInBounds_toArray, List.set_cons_zero, List.set_cons_succ]; refine hK _ _ ?_; clear hK K
              replace HW := Lib.hid (HW.out.trans hE)
              replace hb := hb.ext hE
              replace hn := hn.ext hE
              clear hE
              refine seq_store_row rfl rfl rfl (hn) (pt_info _) (by simp [ptC_size]) (ptC_one _) (by rfl) ((below_row (Below.refl _ _) hs0 _)) ?_; intro K hK; simp only [Act.put, List.setIfInBounds_toArray, List.set_cons_zero, List.set_cons_succ]; refine hK _ _ ?_; clear hK K
              refine seq_done ?_
              have hm := hn.row (ptC (makeP p.pp (permP p) p.g))
              replace hb := hb.apart (k := g) (by omega) (ptC (makeP p.pp (permP p) p.g))
              replace HW := Lib.hid (Ext.row HW.out HO.out (ptC (makeP p.pp (permP p) p.g)))
              generalize w'.setRow g (ptC (makeP p.pp (permP p) p.g)) = wf at hb hm HW ⊢
              have hpm := fun w => perm_c (makeP p.pp (permP p) p.g) w
              rw [perm_make] at hpm
              go_wp2_with fail
              replace hb := hb.drew
              replace hm := hm.drew
              replace HW := Lib.hid HW.out.drew
              refine wp_region_seq [(0, false), (2, false), (1, true), (3, true), (4, false), (5, false), (6, false), (7, false), (8, false), (9, false), (10, false), (11, false), (12, false), (13, false), (14, false), (15, false), (16, false), (17, false), (18, false), (19, false), (20, false), (21, false), (22, false), (23, false), (24, false), (25, false), (26, false), (27, false), (28, false), (29, false), (30, false), (31, false), (32, false), (33, false)] Ext (by kernel_rfl) (by kernel_rfl) Ext.refl (fun _ _ _ => Ext.trans) ?_; simp only [List.map, nth_z, nth_s]
              refine seq_load rfl rfl (fun x hx => Blk.ext (hm) hx) rfl Tryd.underlying24 (by kernel_rfl) (by rfl) ?_; intro K hK; simp only [Act.put, List.setIfInBounds_toArray, List.set_cons_zero, List.set_cons_succ]; refine hK _ ?_; clear hK K
              refine seq_load rfl rfl (fun x hx => Blk.ext (hb) hx) rfl Tryd.underlying24 (by kernel_rfl) (by rfl) ?_; intro K hK; simp only [Act.put, List.setIfInBounds_toArray, List.set_cons_zero, List.set_cons_succ]; refine hK _ ?_; clear hK K
              refine seq_call (hpm _) rfl Tryd.func23 (by kernel_rfl) (by kernel_rfl) (by rfl) (by rfl) ?_; intro K hK; rintro e w' ⟨rfl, hE⟩; refine ⟨_, rfl, hE, ?_⟩; simp only [Act.put, List.setIfInBounds_toArray, List.set_cons_zero, List.set_cons_succ]; refine hK _ _ ?_; clear hK K; replace HW := Lib.hid (HW.out.trans hE); replace hb := hb.ext hE; replace hm := hm.ext hE; clear hE
              refine seq_call (perm_c p _) rfl Tryd.func23 (by kernel_rfl) (by kernel_rfl) (by rfl) (by rfl) ?_; intro K hK; rintro e w' ⟨rfl, hE⟩; refine ⟨_, rfl, hE, ?_⟩; simp only [Act.put, List.setIfInBounds_toArray, List.set_cons_zero, List.set_cons_succ]; refine hK _ _ ?_; clear hK K; replace HW := Lib.hid (HW.out.trans hE); replace hb := hb.ext hE; replace hm := hm.ext hE; clear hE
              clear hpm
              obtain ⟨-, b5, -, -, -, b9⟩ := hb.ptf
              obtain ⟨m0, m5, m6, m7, m9⟩ := hm.made
              clear hb hm
              refine seq_value (.bool true) (by rfl) (fun x hx => by simp [go_sem, execOp, Act.eval, eql_perm, run_eqGuard_agg _ _ _ _ _ _ _ pte_guard, run_eqGuard_agg _ _ _ _ _ _ _ perm_guard]) ?_; intro K hK; simp only [Act.put, List.setIfInBounds_toArray, List.set_cons_zero, List.set_cons_succ]; refine hK _ ?_; clear hK K
              (repeat (first | (refine seq_skip (by rfl) ?_; intro K hK; simp only [Act.put, List.setIfInBounds_toArray, List.set_cons_zero, List.set_cons_succ]; refine hK _ ?_; clear hK K) | (refine seq_skipc (by rfl) ?_; intro K hK; simp only [Act.put, List.setIfInBounds_toArray, List.set_cons_zero, List.set_cons_succ]; refine hK _ ?_; clear hK K) | (refine seq_read (by rfl) (by rfl) ?_; intro K hK; go_big_quiet_op; first | go_big_quiet_on | (refine ⟨_, fun _ _ => rfl, ?_⟩; go_big_quiet_on))))
              refine seq_value (.bool true) (by rfl) (fun x hx => by have hq := ext_cell hx (m0); simp [go_sem, execOp, Act.eval, hq]) ?_; intro K hK; simp only [Act.put, List.setIfInBounds_toArray, List.set_cons_zero, List.set_cons_succ]; refine hK _ ?_; clear hK K
              (repeat (first | (refine seq_skip (by rfl) ?_; intro K hK; simp only [Act.put, List.setIfInBounds_toArray, List.set_cons_zero, List.set_cons_succ]; refine hK _ ?_; clear hK K) | (refine seq_skipc (by rfl) ?_; intro K hK; simp only [Act.put, List.setIfInBounds_toArray, List.set_cons_zero, List.set_cons_succ]; refine hK _ ?_; clear hK K) | (refine seq_read (by rfl) (by rfl) ?_; intro K hK; go_big_quiet_op; first | go_big_quiet_on | (refine ⟨_, fun _ _ => rfl, ?_⟩; go_big_quiet_on))))
              refine seq_value (.int .u64 (p.pp : Int)) (by rfl) (fun x hx => by have hq := ext_cell hx (m9); simp [go_sem, execOp, Act.eval, hq]) ?_; intro K hK; simp only [Act.put, List.setIfInBounds_toArray, List.set_cons_zero, List.set_cons_succ]; refine hK _ ?_; clear hK K
              (repeat (first | (refine seq_skip (by rfl) ?_; intro K hK; simp only [Act.put, List.setIfInBounds_toArray, List.set_cons_zero, List.set_cons_succ]; refine hK _ ?_; clear hK K) | (refine seq_skipc (by rfl) ?_; intro K hK; simp only [Act.put, List.setIfInBounds_toArray, List.set_cons_zero, List.set_cons_succ]; refine hK _ ?_; clear hK K) | (refine seq_read (by rfl) (by rfl) ?_; intro K hK; go_big_quiet_op; first | go_big_quiet_on | (refine ⟨_, fun _ _ => rfl, ?_⟩; go_big_quiet_on))))
              refine seq_value (.int .u64 (p.pp : Int)) (by rfl) (fun x hx => by have hq := ext_cell hx (b9); simp [go_sem, execOp, Act.eval, hq]) ?_; intro K hK; simp only [Act.put, List.setIfInBounds_toArray, List.set_cons_zero, List.set_cons_succ]; refine hK _ ?_; clear hK K
              (repeat (first | (refine seq_skip (by rfl) ?_; intro K hK; simp only [Act.put, List.setIfInBounds_toArray, List.set_cons_zero, List.set_cons_succ]; refine hK _ ?_; clear hK K) | (refine seq_skipc (by rfl) ?_; intro K hK; simp only [Act.put, List.setIfInBounds_toArray, List.set_cons_zero, List.set_cons_succ]; refine hK _ ?_; clear hK K) | (refine seq_read (by rfl) (by rfl) ?_; intro K hK; go_big_quiet_op; first | go_big_quiet_on | (refine ⟨_, fun _ _ => rfl, ?_⟩; go_big_quiet_on))))
              refine seq_value (.bool p.g) (by rfl) (fun x hx => by have hq := ext_cell hx (m5); simp [go_sem, execOp, Act.eval, hq]) ?_; intro K hK; simp only [Act.put, List.setIfInBounds_toArray, List.set_cons_zero, List.set_cons_succ]; refine hK _ ?_; clear hK K
              (repeat (first | (refine seq_skip (by rfl) ?_; intro K hK; simp only [Act.put, List.setIfInBounds_toArray, List.set_cons_zero, List.set_cons_succ]; refine hK _ ?_; clear hK K) | (refine seq_skipc (by rfl) ?_; intro K hK; simp only [Act.put, List.setIfInBounds_toArray, List.set_cons_zero, List.set_cons_succ]; refine hK _ ?_; clear hK K) | (refine seq_read (by rfl) (by rfl) ?_; intro K hK; go_big_quiet_op; first | go_big_quiet_on | (refine ⟨_, fun _ _ => rfl, ?_⟩; go_big_quiet_on))))
              refine seq_value (.bool p.g) (by rfl) (fun x hx => by have hq := ext_cell hx (b5); simp [go_sem, execOp, Act.eval, hq]) ?_; intro K hK; simp only [Act.put, List.setIfInBounds_toArray, List.set_cons_zero, List.set_cons_succ]; refine hK _ ?_; clear hK K
              (repeat (first | (refine seq_skip (by rfl) ?_; intro K hK; simp only [Act.put, List.setIfInBounds_toArray, List.set_cons_zero, List.set_cons_succ]; refine hK _ ?_; clear hK K) | (refine seq_skipc (by rfl) ?_; intro K hK; simp only [Act.put, List.setIfInBounds_toArray, List.set_cons_zero, List.set_cons_succ]; refine hK _ ?_; clear hK K) | (refine seq_read (by rfl) (by rfl) ?_; intro K hK; go_big_quiet_op; first | go_big_quiet_on | (refine ⟨_, fun _ _ => rfl, ?_⟩; go_big_quiet_on))))
              refine seq_value (.bool false) (by rfl) (fun x hx => by have hq := ext_cell hx (m6); simp [go_sem, execOp, Act.eval, hq]) ?_; intro K hK; simp only [Act.put, List.setIfInBounds_toArray, List.set_cons_zero, List.set_cons_succ]; refine hK _ ?_; clear hK K
              (repeat (first | (refine seq_skip (by rfl) ?_; intro K hK; simp only [Act.put, List.setIfInBounds_toArray, List.set_cons_zero, List.set_cons_succ]; refine hK _ ?_; clear hK K) | (refine seq_skipc (by rfl) ?_; intro K hK; simp only [Act.put, List.setIfInBounds_toArray, List.set_cons_zero, List.set_cons_succ]; refine hK _ ?_; clear hK K) | (refine seq_read (by rfl) (by rfl) ?_; intro K hK; go_big_quiet_op; first | go_big_quiet_on | (refine ⟨_, fun _ _ => rfl, ?_⟩; go_big_quiet_on))))
              refine seq_value (.bool false) (by rfl) (fun x hx => by have hq := ext_cell hx (m7); simp [go_sem, execOp, Act.eval, hq]) ?_; intro K hK; simp only [Act.put, List.setIfInBounds_toArray, List.set_cons_zero, List.set_cons_succ]; refine hK _ ?_; clear hK K
              (repeat (first | (refine seq_skip (by rfl) ?_; intro K hK; simp only [Act.put, List.setIfInBounds_toArray, List.set_cons_zero, List.set_cons_succ]; refine hK _ ?_; clear hK K) | (refine seq_skipc (by rfl) ?_; intro K hK; simp only [Act.put, List.setIfInBounds_toArray, List.set_cons_zero, List.set_cons_succ]; refine hK _ ?_; clear hK K) | (refine seq_read (by rfl) (by rfl) ?_; intro K hK; go_big_quiet_op; first | go_big_quiet_on | (refine ⟨_, fun _ _ => rfl, ?_⟩; go_big_quiet_on))))
              refine seq_done ?_
              clear b5 b9 m0 m5 m6 m7 m9
              go_wp2
              go_ret
              exact ⟨rfl, HE.out.trans HW.out⟩
end Go.Proofs.YtdifjgppnfcnnaaDoor
