/- Who may do what (package perm), as plain functions on permissions and ways, and what follows of them. -/
import Derived.Test.YtlhoedpencmikaaGreatDoorGst
import Derived.Test.YtlhoedpencmikaaGreatDoorGagg
import Derived.WalkKit
import Derived.ProofKit
import Derived.OpenShut
namespace Go.Proofs.YtlhoedpencmikaaGreatDoor
set_option linter.unusedVariables false
set_option linter.unusedSimpArgs false

/-- a way that is one -/
def wyIs (w : Wy) : Bool := decide (0 ≤ w.kd) && (decide (w.kd < 3) && (decide (0 ≤ w.pv) && decide (w.pv ≤ 1)))
/-- the page is open to the privilege -/
def pmAd (p : Pm) (w : Wy) : Bool := if w.pv = 0 then p.u else !p.u || (!decide (w.kd = 0) && w.su)
/-- what the kind asks -/
def pmAsk (p : Pm) (w : Wy) : Bool := if w.kd = 0 then p.x else if w.kd = 1 then p.r || p.x && w.mx else p.w
/-- a page of p permits w -/
def pmAl (p : Pm) (w : Wy) : Bool := pmAd p w && pmAsk p w
/-- p are less than q -/
def pmLess (p q : Pm) : Bool := q.r && !p.r || (q.w && !p.w || (q.x && !p.x || (q.u != p.u)))
/-- the twelve kinds and privileges, and a bit beside each -/
theorem wy_cases {w : Wy} (h : wyIs w = true) : (w.kd = 0 ∨ w.kd = 1 ∨ w.kd = 2) ∧ (w.pv = 0 ∨ w.pv = 1) := by
  simp [wyIs] at h; omega
theorem wy_of {w : Wy} (h : (w.kd = 0 ∨ w.kd = 1 ∨ w.kd = 2) ∧ (w.pv = 0 ∨ w.pv = 1)) : wyIs w = true := by
  simp [wyIs]; omega
theorem less_iff (p q : Pm) : pmLess p q = false ↔ (q.r = true → p.r = true) ∧ (q.w = true → p.w = true) ∧ (q.x = true → p.x = true) ∧ q.u = p.u := by
  obtain ⟨r, w1, x, u⟩ := p
  obtain ⟨r', w', x', u'⟩ := q
  simp only [pmLess, Bool.or_eq_false_iff]
  refine and_congr ?_ (and_congr ?_ (and_congr ?_ ?_))
  · cases r <;> cases r' <;> simp
  · cases w1 <;> cases w' <;> simp
  · cases x <;> cases x' <;> simp
  · cases u <;> cases u' <;> simp
/-- what isn't less than others permits all that they do -/
theorem less_al {p q : Pm} {w : Wy} (h : pmLess p q = false) (ha : pmAl q w = true) : pmAl p w = true := by
  obtain ⟨hr, hw, hx, hu⟩ := (less_iff p q).1 h
  clear h
  simp only [pmAl, pmAd, pmAsk, hu, Bool.and_eq_true] at ha ⊢
  refine ⟨ha.1, ?_⟩
  replace ha := ha.2
  revert ha
  split
  · exact hx
  · split
    · simp only [Bool.or_eq_true, Bool.and_eq_true]
      rintro (h | ⟨h, h'⟩)
      · exact Or.inl (hr h)
      · exact Or.inr ⟨hx h, h'⟩
    · exact hw
theorem less_self (p : Pm) : pmLess p p = false := by
  obtain ⟨r, w, x, u⟩ := p
  cases r <;> cases w <;> cases x <;> cases u <;> rfl
attribute [irreducible] wyIs pmAd pmAsk pmAl pmLess

end Go.Proofs.YtlhoedpencmikaaGreatDoor
/- Package perm, and the document's answers (atlasref08): what each function answers, in whatever world, leaving all that was there. -/
namespace Go.Proofs.YtlhoedpencmikaaGreatDoor
open Go.ChangeShapes Go.WideShapes Go.ChangeAt Go.RowKit
set_option linter.unusedVariables false
set_option linter.unusedSimpArgs false

theorem asks1_c (p : Pm) (w : World) :
    Calls Tryz.prog 157 #[.agg (pmC p)] w fun e w' => e = .returned (.bool p.x) ∧ Ext w w' := by
  have HE := Lib.hid ((Ext.refl w).alloc (.cells (pmC p) 64))
  rw [pmC_eq] at HE ⊢
  go_enter Tryz.func157, Tryz.ntmps157
  go_wp2
  go_ret
  exact ⟨rfl, HE.out⟩
theorem asks3_c (p : Pm) (w : World) :
    Calls Tryz.prog 159 #[.agg (pmC p)] w fun e w' => e = .returned (.bool p.w) ∧ Ext w w' := by
  have HE := Lib.hid ((Ext.refl w).alloc (.cells (pmC p) 64))
  rw [pmC_eq] at HE ⊢
  go_enter Tryz.func159, Tryz.ntmps159
  go_wp2
  go_ret
  exact ⟨rfl, HE.out⟩
theorem asks2_c (p : Pm) (g : Nat) (m : Bool) (w : World) (hm : w.cell? ⟨g, 0, none⟩ = some (.bool m)) :
    Calls Tryz.prog 158 #[.agg (pmC p), .pointer (some ⟨g, 0, none⟩)] w fun e w' => e = .returned (.bool (p.r || p.x && m)) ∧ Ext w w' := by
  have HE := Lib.hid ((Ext.refl w).alloc (.cells (pmC p) 64))
  have hm1 := ext_cell HE.out hm
  obtain ⟨r, y, x, u⟩ := p
  rw [pmC_def] at HE hm1 ⊢
  cases r <;> cases x <;> (go_enter Tryz.func158, Tryz.ntmps158; go_wp2; go_ret; exact ⟨rfl, HE.out⟩)
theorem is_lit (k v : Int) (s m : Bool) : wyIs ⟨k, v, s, m⟩ = (decide (0 ≤ k) && (decide (k < 3) && (decide (0 ≤ v) && decide (v ≤ 1)))) := by unfold wyIs; rfl
set_option maxHeartbeats 1000000 in
theorem is8_c (y : Wy) (w : World) :
    Calls Tryz.prog 41 #[.agg (wyC y)] w fun e w' => e = .returned (.bool (wyIs y)) ∧ Ext w w' := by
  have HE := Lib.hid ((Ext.refl w).alloc (.cells (wyC y) 95))
  obtain ⟨k, v, s, m⟩ := y
  rw [wyC_def] at HE ⊢
  rw [is_lit]
  by_cases h0 : 0 ≤ k <;> by_cases h1 : k < 3 <;> by_cases h2 : 0 ≤ v <;> by_cases h3 : v ≤ 1 <;> (first | (exfalso; omega) | (go_enter Tryz.func41, Tryz.ntmps41; go_wp2; go_ret; exact ⟨by simp [h0, h1, h2, h3], HE.out⟩))
end Go.Proofs.YtlhoedpencmikaaGreatDoor
/- perm.Allows: what is permitted. -/
namespace Go.Proofs.YtlhoedpencmikaaGreatDoor
open Go.ChangeShapes Go.WideShapes Go.ChangeAt Go.RowKit
set_option linter.unusedVariables false
set_option linter.unusedSimpArgs false
set_option maxRecDepth 10000

theorem asks_c (m : Bool) (w : World) :
    Calls Tryz.prog 152 #[.bool m] w fun e w' => ∃ g, e = .returned (.agg #[.func (.func 157) #[] #[], .func (.func 158) #[] #[.pointer (some ⟨g, 0, none⟩)], .func (.func 159) #[] #[]]) ∧ w'.cell? ⟨g, 0, none⟩ = some (.bool m) ∧ Ext w w' := by
  go_enter Tryz.func152, Tryz.ntmps152
  go_wp2_with (refine wpList_store_new rfl 181 _ _ rfl #[.func (.func 157) #[] #[], .func (.func 158) #[] #[.pointer (some ⟨w.heap.size, 0, none⟩)], .func (.func 159) #[] #[]] _ _ (by simp [Act.eval]) rfl (by kernel_rfl) (by rfl) (by simp [Value.oneCell']) ?_)
  refine bodyPost_ret (results_cell_row rfl _ _ _ _ _ _ _ rfl ((blk_at (by simp))) Tryz.underlying181 rfl (by kernel_rfl)) rfl ?_
  exact ⟨w.heap.size, rfl, by simp, ((Ext.refl w).alloc _).alloc _⟩
theorem ad_lit (p : Pm) (k v : Int) (s m : Bool) : pmAd p ⟨k, v, s, m⟩ = if v = 0 then p.u else !p.u || (!decide (k = 0) && s) := by unfold pmAd; rfl
set_option maxHeartbeats 1000000 in
theorem admits_c (p : Pm) (y : Wy) (w : World) :
    Calls Tryz.prog 151 #[.agg (pmC p), .agg (wyC y)] w fun e w' => e = .returned (.bool (pmAd p y)) ∧ Ext w w' := by
  have HE := Lib.hid (((Ext.refl w).alloc (.cells (pmC p) 64)).alloc (.cells (wyC y) 95))
  obtain ⟨k, v, s, m⟩ := y
  rw [ad_lit]
  obtain ⟨r, y, x, u⟩ := p
  rw [pmC_def, wyC_def] at HE ⊢
  by_cases hv : v = 0
  · subst hv
    go_enter Tryz.func151, Tryz.ntmps151
    go_wp2
    go_ret
    exact ⟨rfl, HE.out⟩
  · rw [if_neg hv]
    have hv' : (v == 0) = false := by simpa using hv
    cases u
    · go_enter Tryz.func151, Tryz.ntmps151
      go_wp2
      go_ret
      exact ⟨by simp, HE.out⟩
    · by_cases hk : k = 0
      · subst hk
        go_enter Tryz.func151, Tryz.ntmps151
        go_wp2
        go_ret
        exact ⟨by simp, HE.out⟩
      · have hk' : (k == 0) = false := by simpa using hk
        go_enter Tryz.func151, Tryz.ntmps151
        go_wp2
        go_ret
        exact ⟨by simp [hk], HE.out⟩
theorem al_lit (p : Pm) (y : Wy) : pmAl p y = (pmAd p y && pmAsk p y) := by unfold pmAl; rfl
theorem ask_lit (p : Pm) (k v : Int) (s m : Bool) : pmAsk p ⟨k, v, s, m⟩ = if k = 0 then p.x else if k = 1 then p.r || p.x && m else p.w := by unfold pmAsk; rfl
set_option maxHeartbeats 1000000 in
theorem al8_c (p : Pm) (y : Wy) (hy : wyIs y = true) (w : World) :
    Calls Tryz.prog 126 #[.agg (pmC p), .agg (wyC y)] w fun e w' => e = .returned (.bool (pmAl p y)) ∧ Ext w w' := by
  have HE := Lib.hid (((Ext.refl w).alloc (.cells (pmC p) 64)).alloc (.cells (wyC y) 95))
  have hb := (Blk.new w 64 (pmC p)).alloc (.cells (wyC y) 95)
  have hc : Blk ((w.alloc (.cells (pmC p) 64)).alloc (.cells (wyC y) 95)) (w.heap.size + 1) 95 (wyC y) := blk_at (by simp)
  have his := is8_c y
  rw [hy] at his
  have had := admits_c p y
  rw [al_lit]
  rcases hd : pmAd p y with _ | _
  · rw [hd] at had
    clear hd hy
    go_enter Tryz.func126, Tryz.ntmps126
    go_wp2_with (refine wpList_load_blk (by rfl) 95 _ rfl rfl (by with_reducible assumption) Tryz.underlying95 rfl (by kernel_rfl) ?_)
    refine (his _).mono ?_
    rintro e w1 ⟨rfl, hE⟩
    replace HE := Lib.hid (HE.out.trans hE).drew
    replace hb := (hb.ext hE).drew
    replace hc := (hc.ext hE).drew
    clear hE his
    go_wp2_with fail
    refine wp_region_seq [(0, false), (1, false), (2, true), (3, false), (4, false), (5, false), (7, false), (8, false), (10, false), (6, true), (9, false), (11, true), (12, false), (13, false)] Ext (by kernel_rfl) (by kernel_rfl) Ext.refl (fun _ _ _ => Ext.trans) ?_; simp only [List.map, nth_z, nth_s]
    refine seq_load rfl rfl (fun x hx => Blk.ext (hb) hx) rfl Tryz.underlying64 (by kernel_rfl) (by rfl) ?_; intro K hK; simp only [Act.put, List.setIfInBounds_toArray, List.set_cons_zero, List.set_cons_succ]; refine hK _ ?_; clear hK K
    refine seq_load rfl rfl (fun x hx => Blk.ext (hc) hx) rfl Tryz.underlying95 (by kernel_rfl) (by rfl) ?_; intro K hK; simp only [Act.put, List.setIfInBounds_toArray, List.set_cons_zero, List.set_cons_succ]; refine hK _ ?_; clear hK K
    refine seq_call (had _) rfl Tryz.func151 (by kernel_rfl) (by kernel_rfl) (by rfl) (by rfl) ?_; intro K hK; rintro e w' ⟨rfl, hE⟩; refine ⟨_, rfl, hE, ?_⟩; simp only [Act.put, List.setIfInBounds_toArray, List.set_cons_zero, List.set_cons_succ]; refine hK _ _ ?_; clear hK K
    replace HE := Lib.hid (HE.out.trans hE)
    replace hb := hb.ext hE
    replace hc := hc.ext hE
    clear hE had
    (repeat (first | (refine seq_skip (by rfl) ?_; intro K hK; simp only [Act.put, List.setIfInBounds_toArray, List.set_cons_zero, List.set_cons_succ]; refine hK _ ?_; clear hK K) | (refine seq_skipc (by rfl) ?_; intro K hK; simp only [Act.put, List.setIfInBounds_toArray, List.set_cons_zero, List.set_cons_succ]; refine hK _ ?_; clear hK K) | (refine seq_read (by rfl) (by rfl) ?_; intro K hK; go_big_quiet_op; first | go_big_quiet_on | (refine ⟨_, fun _ _ => rfl, ?_⟩; go_big_quiet_on))))
    refine seq_done ?_
    go_wp2
    go_ret
    exact ⟨rfl, HE.out⟩
  · rw [hd] at had
    have hk := (wy_cases hy).1
    obtain ⟨k, v, s, m⟩ := y
    rw [ask_lit]
    clear hd hy
    simp only at hk
    rcases hk with rfl | rfl | rfl
    · skip
      go_enter Tryz.func126, Tryz.ntmps126
      go_wp2_with (refine wpList_load_blk (by rfl) 95 _ rfl rfl (by with_reducible assumption) Tryz.underlying95 rfl (by kernel_rfl) ?_)
      refine (his _).mono ?_
      rintro e w1 ⟨rfl, hE⟩
      replace HE := Lib.hid (HE.out.trans hE).drew
      replace hb := (hb.ext hE).drew
      replace hc := (hc.ext hE).drew
      clear hE his
      go_wp2_with fail
      refine wp_region_seq [(0, false), (1, false), (2, true), (3, false), (4, false), (5, false), (7, false), (8, false), (10, false), (6, true), (9, false), (11, true), (12, false), (13, false)] Ext (by kernel_rfl) (by kernel_rfl) Ext.refl (fun _ _ _ => Ext.trans) ?_; simp only [List.map, nth_z, nth_s]
      refine seq_load rfl rfl (fun x hx => Blk.ext (hb) hx) rfl Tryz.underlying64 (by kernel_rfl) (by rfl) ?_; intro K hK; simp only [Act.put, List.setIfInBounds_toArray, List.set_cons_zero, List.set_cons_succ]; refine hK _ ?_; clear hK K
      refine seq_load rfl rfl (fun x hx => Blk.ext (hc) hx) rfl Tryz.underlying95 (by kernel_rfl) (by rfl) ?_; intro K hK; simp only [Act.put, List.setIfInBounds_toArray, List.set_cons_zero, List.set_cons_succ]; refine hK _ ?_; clear hK K
      refine seq_call (had _) rfl Tryz.func151 (by kernel_rfl) (by kernel_rfl) (by rfl) (by rfl) ?_; intro K hK; rintro e w' ⟨rfl, hE⟩; refine ⟨_, rfl, hE, ?_⟩; simp only [Act.put, List.setIfInBounds_toArray, List.set_cons_zero, List.set_cons_succ]; refine hK _ _ ?_; clear hK K
      replace HE := Lib.hid (HE.out.trans hE)
      replace hb := hb.ext hE
      replace hc := hc.ext hE
      clear hE had
      have hc1 := hc.wy
      (repeat ((refine seq_read (by rfl) (by rfl) ?_; intro K hK; go_big_quiet_op; first | go_big_quiet_on | (refine ⟨_, fun _ _ => rfl, ?_⟩; go_big_quiet_on))))
      refine seq_value ((.bool m)) (by rfl) (fun x hx => by have hq := ext_cell hx (hc1.2.2.2); simp [go_sem, execOp, Act.eval, hq]) ?_; intro K hK; simp only [Act.put, List.setIfInBounds_toArray, List.set_cons_zero, List.set_cons_succ]; refine hK _ ?_; clear hK K
      (repeat ((refine seq_read (by rfl) (by rfl) ?_; intro K hK; go_big_quiet_op; (refine ⟨_, fun _ _ => rfl, ?_⟩; go_big_quiet_on))))
      refine seq_value ((.int .i64 0)) (by rfl) (fun x hx => by have hq := ext_cell hx (hc1.1); simp [go_sem, execOp, Act.eval, hq]) ?_; intro K hK; simp only [Act.put, List.setIfInBounds_toArray, List.set_cons_zero, List.set_cons_succ]; refine hK _ ?_; clear hK K
      refine seq_load rfl rfl (fun x hx => Blk.ext (hb) hx) rfl Tryz.underlying64 (by kernel_rfl) (by rfl) ?_; intro K hK; simp only [Act.put, List.setIfInBounds_toArray, List.set_cons_zero, List.set_cons_succ]; refine hK _ ?_; clear hK K
      refine seq_call (asks_c m _) rfl Tryz.func152 (by kernel_rfl) (by kernel_rfl) (by rfl) (by rfl) ?_; intro K hK; rintro e w' ⟨g, rfl, hm, hE⟩; refine ⟨_, rfl, hE, ?_⟩; simp only [Act.put, List.setIfInBounds_toArray, List.set_cons_zero, List.set_cons_succ]; refine hK _ _ ?_; clear hK K
      replace HE := Lib.hid (HE.out.trans hE)
      clear hE
      skip
      refine seq_value (.func (.func 157) #[] #[]) (by rfl) (fun x hx => by simp [go_sem, execOp, Act.eval, Instr.index]) ?_; intro K hK; simp only [Act.put, List.setIfInBounds_toArray, List.set_cons_zero, List.set_cons_succ]; refine hK _ ?_; clear hK K
      refine seq_callv (asks1_c p _) rfl (by rfl) Tryz.func157 (by kernel_rfl) (by kernel_rfl) (by rfl) (by rfl) (by rfl) ?_; intro K hK; rintro e w' ⟨rfl, hE⟩; refine ⟨_, rfl, hE, ?_⟩; simp only [Act.put, List.setIfInBounds_toArray, List.set_cons_zero, List.set_cons_succ]; refine hK _ _ ?_; clear hK K
      replace HE := Lib.hid (HE.out.trans hE)
      clear hE
      (repeat ((refine seq_read (by rfl) (by rfl) ?_; intro K hK; go_big_quiet_op; first | go_big_quiet_on | (refine ⟨_, fun _ _ => rfl, ?_⟩; go_big_quiet_on))))
      refine seq_done ?_
      go_wp2
      go_ret
      exact ⟨rfl, HE.out⟩
    · skip
      go_enter Tryz.func126, Tryz.ntmps126
      go_wp2_with (refine wpList_load_blk (by rfl) 95 _ rfl rfl (by with_reducible assumption) Tryz.underlying95 rfl (by kernel_rfl) ?_)
      refine (his _).mono ?_
      rintro e w1 ⟨rfl, hE⟩
      replace HE := Lib.hid (HE.out.trans hE).drew
      replace hb := (hb.ext hE).drew
      replace hc := (hc.ext hE).drew
      clear hE his
      go_wp2_with fail
      refine wp_region_seq [(0, false), (1, false), (2, true), (3, false), (4, false), (5, false), (7, false), (8, false), (10, false), (6, true), (9, false), (11, true), (12, false), (13, false)] Ext (by kernel_rfl) (by kernel_rfl) Ext.refl (fun _ _ _ => Ext.trans) ?_; simp only [List.map, nth_z, nth_s]
      refine seq_load rfl rfl (fun x hx => Blk.ext (hb) hx) rfl Tryz.underlying64 (by kernel_rfl) (by rfl) ?_; intro K hK; simp only [Act.put, List.setIfInBounds_toArray, List.set_cons_zero, List.set_cons_succ]; refine hK _ ?_; clear hK K
      refine seq_load rfl rfl (fun x hx => Blk.ext (hc) hx) rfl Tryz.underlying95 (by kernel_rfl) (by rfl) ?_; intro K hK; simp only [Act.put, List.setIfInBounds_toArray, List.set_cons_zero, List.set_cons_succ]; refine hK _ ?_; clear hK K
      refine seq_call (had _) rfl Tryz.func151 (by kernel_rfl) (by kernel_rfl) (by rfl) (by rfl) ?_; intro K hK; rintro e w' ⟨rfl, hE⟩; refine ⟨_, rfl, hE, ?_⟩; simp only [Act.put, List.setIfInBounds_toArray, List.set_cons_zero, List.set_cons_succ]; refine hK _ _ ?_; clear hK K
      replace HE := Lib.hid (HE.out.trans hE)
      replace hb := hb.ext hE
      replace hc := hc.ext hE
      clear hE had
      have hc1 := hc.wy
      (repeat ((refine seq_read (by rfl) (by rfl) ?_; intro K hK; go_big_quiet_op; first | go_big_quiet_on | (refine ⟨_, fun _ _ => rfl, ?_⟩; go_big_quiet_on))))
      refine seq_value ((.bool m)) (by rfl) (fun x hx => by have hq := ext_cell hx (hc1.2.2.2); simp [go_sem, execOp, Act.eval, hq]) ?_; intro K hK; simp only [Act.put, List.setIfInBounds_toArray, List.set_cons_zero, List.set_cons_succ]; refine hK _ ?_; clear hK K
      (repeat ((refine seq_read (by rfl) (by rfl) ?_; intro K hK; go_big_quiet_op; (refine ⟨_, fun _ _ => rfl, ?_⟩; go_big_quiet_on))))
      refine seq_value ((.int .i64 1)) (by rfl) (fun x hx => by have hq := ext_cell hx (hc1.1); simp [go_sem, execOp, Act.eval, hq]) ?_; intro K hK; simp only [Act.put, List.setIfInBounds_toArray, List.set_cons_zero, List.set_cons_succ]; refine hK _ ?_; clear hK K
      refine seq_load rfl rfl (fun x hx => Blk.ext (hb) hx) rfl Tryz.underlying64 (by kernel_rfl) (by rfl) ?_; intro K hK; simp only [Act.put, List.setIfInBounds_toArray, List.set_cons_zero, List.set_cons_succ]; refine hK _ ?_; clear hK K
      refine seq_call (asks_c m _) rfl Tryz.func152 (by kernel_rfl) (by kernel_rfl) (by rfl) (by rfl) ?_; intro K hK; rintro e w' ⟨g, rfl, hm, hE⟩; refine ⟨_, rfl, hE, ?_⟩; simp only [Act.put, List.setIfInBounds_toArray, List.set_cons_zero, List.set_cons_succ]; refine hK _ _ ?_; clear hK K
      replace HE := Lib.hid (HE.out.trans hE)
      clear hE
      skip
      refine seq_value (.func (.func 158) #[] #[.pointer (some ⟨g, 0, none⟩)]) (by rfl) (fun x hx => by simp [go_sem, execOp, Act.eval, Instr.index]) ?_; intro K hK; simp only [Act.put, List.setIfInBounds_toArray, List.set_cons_zero, List.set_cons_succ]; refine hK _ ?_; clear hK K
      refine seq_callv (asks2_c p _ m _ hm) rfl (by rfl) Tryz.func158 (by kernel_rfl) (by kernel_rfl) (by rfl) (by rfl) (by rfl) ?_; intro K hK; rintro e w' ⟨rfl, hE⟩; refine ⟨_, rfl, hE, ?_⟩; simp only [Act.put, List.setIfInBounds_toArray, List.set_cons_zero, List.set_cons_succ]; refine hK _ _ ?_; clear hK K
      replace HE := Lib.hid (HE.out.trans hE)
      clear hE
      (repeat ((refine seq_read (by rfl) (by rfl) ?_; intro K hK; go_big_quiet_op; first | go_big_quiet_on | (refine ⟨_, fun _ _ => rfl, ?_⟩; go_big_quiet_on))))
      refine seq_done ?_
      go_wp2
      go_ret
      exact ⟨rfl, HE.out⟩
    · skip
      go_enter Tryz.func126, Tryz.ntmps126
      go_wp2_with (refine wpList_load_blk (by rfl) 95 _ rfl rfl (by with_reducible assumption) Tryz.underlying95 rfl (by kernel_rfl) ?_)
      refine (his _).mono ?_
      rintro e w1 ⟨rfl, hE⟩
      replace HE := Lib.hid (HE.out.trans hE).drew
      replace hb := (hb.ext hE).drew
      replace hc := (hc.ext hE).drew
      clear hE his
      go_wp2_with fail
      refine wp_region_seq [(0, false), (1, false), (2, true), (3, false), (4, false), (5, false), (7, false), (8, false), (10, false), (6, true), (9, false), (11, true), (12, false), (13, false)] Ext (by kernel_rfl) (by kernel_rfl) Ext.refl (fun _ _ _ => Ext.trans) ?_; simp only [List.map, nth_z, nth_s]
      refine seq_load rfl rfl (fun x hx => Blk.ext (hb) hx) rfl Tryz.underlying64 (by kernel_rfl) (by rfl) ?_; intro K hK; simp only [Act.put, List.setIfInBounds_toArray, List.set_cons_zero, List.set_cons_succ]; refine hK _ ?_; clear hK K
      refine seq_load rfl rfl (fun x hx => Blk.ext (hc) hx) rfl Tryz.underlying95 (by kernel_rfl) (by rfl) ?_; intro K hK; simp only [Act.put, List.setIfInBounds_toArray, List.set_cons_zero, List.set_cons_succ]; refine hK _ ?_; clear hK K
      refine seq_call (had _) rfl Tryz.func151 (by kernel_rfl) (by kernel_rfl) (by rfl) (by rfl) ?_; intro K hK; rintro e w' ⟨rfl, hE⟩; refine ⟨_, rfl, hE, ?_⟩; simp only [Act.put, List.setIfInBounds_toArray, List.set_cons_zero, List.set_cons_succ]; refine hK _ _ ?_; clear hK K
      replace HE := Lib.hid (HE.out.trans hE)
      replace hb := hb.ext hE
      replace hc := hc.ext hE
      clear hE had
      have hc1 := hc.wy
      (repeat ((refine seq_read (by rfl) (by rfl) ?_; intro K hK; go_big_quiet_op; first | go_big_quiet_on | (refine ⟨_, fun _ _ => rfl, ?_⟩; go_big_quiet_on))))
      refine seq_value ((.bool m)) (by rfl) (fun x hx => by have hq := ext_cell hx (hc1.2.2.2); simp [go_sem, execOp, Act.eval, hq]) ?_; intro K hK; simp only [Act.put, List.setIfInBounds_toArray, List.set_cons_zero, List.set_cons_succ]; refine hK _ ?_; clear hK K
      (repeat ((refine seq_read (by rfl) (by rfl) ?_; intro K hK; go_big_quiet_op; (refine ⟨_, fun _ _ => rfl, ?_⟩; go_big_quiet_on))))
      refine seq_value ((.int .i64 2)) (by rfl) (fun x hx => by have hq := ext_cell hx (hc1.1); simp [go_sem, execOp, Act.eval, hq]) ?_; intro K hK; simp only [Act.put, List.setIfInBounds_toArray, List.set_cons_zero, List.set_cons_succ]; refine hK _ ?_; clear hK K
      refine seq_load rfl rfl (fun x hx => Blk.ext (hb) hx) rfl Tryz.underlying64 (by kernel_rfl) (by rfl) ?_; intro K hK; simp only [Act.put, List.setIfInBounds_toArray, List.set_cons_zero, List.set_cons_succ]; refine hK _ ?_; clear hK K
      refine seq_call (asks_c m _) rfl Tryz.func152 (by kernel_rfl) (by kernel_rfl) (by rfl) (by rfl) ?_; intro K hK; rintro e w' ⟨g, rfl, hm, hE⟩; refine ⟨_, rfl, hE, ?_⟩; simp only [Act.put, List.setIfInBounds_toArray, List.set_cons_zero, List.set_cons_succ]; refine hK _ _ ?_; clear hK K
      replace HE := Lib.hid (HE.out.trans hE)
      clear hE
      skip
      refine seq_value (.func (.func 159) #[] #[]) (by rfl) (fun x hx => by simp [go_sem, execOp, Act.eval, Instr.index]) ?_; intro K hK; simp only [Act.put, List.setIfInBounds_toArray, List.set_cons_zero, List.set_cons_succ]; refine hK _ ?_; clear hK K
      refine seq_callv (asks3_c p _) rfl (by rfl) Tryz.func159 (by kernel_rfl) (by kernel_rfl) (by rfl) (by rfl) (by rfl) ?_; intro K hK; rintro e w' ⟨rfl, hE⟩; refine ⟨_, rfl, hE, ?_⟩; simp only [Act.put, List.setIfInBounds_toArray, List.set_cons_zero, List.set_cons_succ]; refine hK _ _ ?_; clear hK K
      replace HE := Lib.hid (HE.out.trans hE)
      clear hE
      (repeat ((refine seq_read (by rfl) (by rfl) ?_; intro K hK; go_big_quiet_op; first | go_big_quiet_on | (refine ⟨_, fun _ _ => rfl, ?_⟩; go_big_quiet_on))))
      refine seq_done ?_
      go_wp2
      go_ret
      exact ⟨rfl, HE.out⟩
end Go.Proofs.YtlhoedpencmikaaGreatDoor
/- The document's answers for package perm (atlasref08). -/
namespace Go.Proofs.YtlhoedpencmikaaGreatDoor
open Go.ChangeShapes Go.WideShapes Go.ChangeAt Go.RowKit
set_option linter.unusedVariables false
set_option linter.unusedSimpArgs false

end Go.Proofs.YtlhoedpencmikaaGreatDoor
