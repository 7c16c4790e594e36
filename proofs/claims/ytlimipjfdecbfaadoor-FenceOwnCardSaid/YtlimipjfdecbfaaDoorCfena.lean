/- Package fence: Of, Asid, Addr, asks, what they ask, Names. -/
import Derived.Test.YtlimipjfdecbfaaDoorRfena
import Derived.Test.YtlimipjfdecbfaaDoorCtlba
import Derived.Test.YtlimipjfdecbfaaDoorFork
namespace Go.Proofs.YtlimipjfdecbfaaDoor
open Go.ChangeShapes Go.WideShapes Go.ChangeAt Go.RowKit
set_option linter.unusedVariables false
set_option linter.unusedSimpArgs false
set_option maxRecDepth 10000

theorem fOf_C (n a : Nat) : fcC (fOf n a) = #[.bool true, .int .u64 (a : Int), .bool true, .int .u64 (n : Int)] := by unfold fOf; rw [fcC_eq]
theorem fAs_C (n : Nat) : fcC (fAs n) = #[.bool false, .int .u64 0, .bool true, .int .u64 (n : Int)] := by unfold fAs; rw [fcC_eq]; rfl
theorem fAd_C (a : Nat) : fcC (fAd a) = #[.bool true, .int .u64 (a : Int), .bool false, .int .u64 0] := by unfold fAd; rw [fcC_eq]; rfl
theorem fOf_ok {n a : Nat} (hn : n < 18446744073709551616) (ha : a < 18446744073709551616) : (fOf n a).ok := by unfold fOf; exact ⟨ha, hn⟩
theorem fAs_ok {n : Nat} (hn : n < 18446744073709551616) : (fAs n).ok := by unfold fAs; exact ⟨by show 0 < _; decide, hn⟩
theorem fAd_ok {a : Nat} (ha : a < 18446744073709551616) : (fAd a).ok := by unfold fAd; exact ⟨ha, by show 0 < _; decide⟩
theorem fc0_ok : fc0.ok := ⟨by show 0 < _; decide, by show 0 < _; decide⟩
theorem of15_c (n a : Nat) (w : World) :
    Calls Tryd.prog 10 #[.int .u64 (n : Int), .int .u64 (a : Int)] w fun r w' => r = .returned (.agg (fcC (fOf n a))) ∧ Ext w w' := by
  rw [fOf_C]
  go_enter Tryd.func10, Tryd.ntmps10
  go_wp2
  (try simp only [Exit.inBlock, Exit.then]); refine bodyPost_ret (results_cell_row rfl _ _ _ _ _ _ _ rfl ((blk_at (by simp))) Tryd.underlying24 rfl (by kernel_rfl)) rfl ?_
  exact ⟨by first | rfl | simp, by first | exact (Ext.refl w).alloc _ | skip⟩
theorem asid15_c (n : Nat) (w : World) :
    Calls Tryd.prog 11 #[.int .u64 (n : Int)] w fun r w' => r = .returned (.agg (fcC (fAs n))) ∧ Ext w w' := by
  rw [fAs_C]
  go_enter Tryd.func11, Tryd.ntmps11
  go_wp2
  (try simp only [Exit.inBlock, Exit.then]); refine bodyPost_ret (results_cell_row rfl _ _ _ _ _ _ _ rfl ((blk_at (by simp))) Tryd.underlying24 rfl (by kernel_rfl)) rfl ?_
  exact ⟨by first | rfl | simp, by first | exact (Ext.refl w).alloc _ | skip⟩
theorem addr15_c (a : Nat) (w : World) :
    Calls Tryd.prog 12 #[.int .u64 (a : Int)] w fun r w' => r = .returned (.agg (fcC (fAd a))) ∧ Ext w w' := by
  rw [fAd_C]
  go_enter Tryd.func12, Tryd.ntmps12
  go_wp2
  (try simp only [Exit.inBlock, Exit.then]); refine bodyPost_ret (results_cell_row rfl _ _ _ _ _ _ _ rfl ((blk_at (by simp))) Tryd.underlying24 rfl (by kernel_rfl)) rfl ?_
  exact ⟨by first | rfl | simp, by first | exact (Ext.refl w).alloc _ | skip⟩
theorem asks15_c (w : World) :
    Calls Tryd.prog 29 #[] w fun r w' => ∃ g, r = .returned (.slice (some ⟨g, 0, none⟩) 2 2) ∧ w'.cell? ⟨g, 0, none⟩ = some (.func (.func 40) #[] #[]) ∧ w'.cell? ⟨g, 1, none⟩ = some (.func (.func 41) #[] #[]) ∧ Ext w w' := by
  go_enter Tryd.func29, Tryd.ntmps29
  go_wp2
  go_ret
  exact ⟨w.heap.size, by first | rfl | simp, by simp, by simp, by first | exact (Ext.refl w).alloc _ | skip⟩
def reachB (f : Fc) (q : En) : Bool := !f.ha || covE q f.ad
def ownB (f : Fc) (q : En) : Bool := !f.hn || (!q.g && ((q.n : Int) == f.n))
theorem nam_two (f : Fc) (q : En) : namF f q = (q.v && (reachB f q && ownB f q)) := nam_eq f q
theorem reach_eq (f : Fc) (q : En) : reachB f q = (!f.ha || covE q f.ad) := rfl
theorem own_eq (f : Fc) (q : En) : ownB f q = (!f.hn || (!q.g && ((q.n : Int) == f.n))) := rfl
attribute [irreducible] reachB ownB
theorem reaches_c (f : Fc) (hf : f.ok) (q : En) (he : q.v = true → 0 ≤ q.l ∧ q.l ≤ 2) (w : World) (hT : Siz w) :
    Calls Tryd.prog 40 #[.agg (fcC f), .agg (enC q)] w fun r w' => r = .returned (.bool (reachB f q)) ∧ Ext w w' := by
  have h1 : Blk ((w.alloc (.cells (fcC f) 61)).alloc (.cells (enC q) 28)) w.heap.size 61 (fcC f) := (Blk.new w _ _).alloc _
  have h2 : Blk ((w.alloc (.cells (fcC f) 61)).alloc (.cells (enC q) 28)) (w.heap.size + 1) 28 (enC q) := blk_at (by simp)
  have HE := Lib.hid (((Ext.refl w).alloc (.cells (fcC f) 61)).alloc (.cells (enC q) 28))
  have hq := reach_eq f q
  have y0 := h1.fc.1
  have y1 := h1.fc.2.1
  have hf1 := hf.1
  have cis := fun w => is5_c (f.ad : Int) (by omega) (by omega) w
  have ccv := fun w k => covers_c q he (f.ad : Int) (by omega) (by omega) w k
  cases ha : f.ha
  · rw [ha] at y0 hq
    clear cis ccv
    go_enter Tryd.func40, Tryd.ntmps40
    go_wp2
    go_ret
    exact ⟨by rw [hq]; rfl, HE.out⟩
  rw [ha] at y0 hq
  cases hva : vaB (f.ad : Int)
  · rw [hva] at cis
    have hc : covE q f.ad = false := by
      cases hc : covE q f.ad
      · rfl
      · unfold covE at hc; rw [hva] at hc; simp at hc
    rw [hc] at hq
    clear ccv
    go_enter Tryd.func40, Tryd.ntmps40
    go_wp2_with (fail); refine (calls_ext (cis _)).mono ?_; rintro e w' ⟨rfl, hE⟩; (try replace hb := hb.ext hE); (try replace hc := hc.ext hE); (try replace h1 := h1.ext hE); (try replace h2 := h2.ext hE); (try replace HE := Lib.hid (HE.out.trans hE))
    clear hE
    go_wp2
    go_ret
    exact ⟨by rw [hq]; rfl, HE.out⟩
  rw [hva] at cis
  obtain ⟨b, hb⟩ : ∃ b, covE q f.ad = b := ⟨_, rfl⟩
  rw [hb] at ccv hq
  clear hb
  go_enter Tryd.func40, Tryd.ntmps40
  go_wp2_with (fail); refine (calls_ext (cis _)).mono ?_; rintro e w' ⟨rfl, hE⟩; (try replace hb := hb.ext hE); (try replace hc := hc.ext hE); (try replace h1 := h1.ext hE); (try replace h2 := h2.ext hE); (try replace HE := Lib.hid (HE.out.trans hE))
  clear hE y0 y1
  have y1 := h1.fc.2.1
  go_wp2_with ((refine wpList_load_blk (by rfl) 28 _ rfl rfl (by first | exact h1 | exact h2 | exact hb | exact hc) Tryd.underlying28 rfl (by kernel_rfl) ?_)); refine (ccv _ (hT.ext HE.out)).mono ?_; rintro e w' ⟨rfl, hE⟩; (try replace hb := hb.ext hE); (try replace hc := hc.ext hE); (try replace h1 := h1.ext hE); (try replace h2 := h2.ext hE); (try replace HE := Lib.hid (HE.out.trans hE))
  clear hE cis ccv y1
  go_wp2
  go_ret
  exact ⟨by rw [hq]; rfl, HE.out⟩
theorem owns_c (f : Fc) (q : En) (w : World) :
    Calls Tryd.prog 41 #[.agg (fcC f), .agg (enC q)] w fun r w' => r = .returned (.bool (ownB f q)) ∧ Ext w w' := by
  have h1 : Blk ((w.alloc (.cells (fcC f) 61)).alloc (.cells (enC q) 28)) w.heap.size 61 (fcC f) := (Blk.new w _ _).alloc _
  have h2 : Blk ((w.alloc (.cells (fcC f) 61)).alloc (.cells (enC q) 28)) (w.heap.size + 1) 28 (enC q) := blk_at (by simp)
  have HE := Lib.hid (((Ext.refl w).alloc (.cells (fcC f) 61)).alloc (.cells (enC q) 28))
  have hq := own_eq f q
  have x1 := h2.en_n
  have x2 := h2.en_g
  have y2 := h1.fc.2.2.1
  have y3 := h1.fc.2.2.2
  cases hn : f.hn
  · rw [hn] at y2 hq
    go_enter Tryd.func41, Tryd.ntmps41
    go_wp2
    go_ret
    exact ⟨by rw [hq]; rfl, HE.out⟩
  rw [hn] at y2 hq
  cases hg : q.g
  · rw [hg] at x2 hq
    go_enter Tryd.func41, Tryd.ntmps41
    go_wp2
    go_ret
    exact ⟨by rw [hq]; simp, HE.out⟩
  · rw [hg] at x2 hq
    go_enter Tryd.func41, Tryd.ntmps41
    go_wp2
    go_ret
    exact ⟨by rw [hq]; rfl, HE.out⟩
set_option maxHeartbeats 1000000 in
theorem names15_c (f : Fc) (hf : f.ok) (q : En) (hm : mayE q = true) (w : World) (hT : Siz w) :
    Calls Tryd.prog 14 #[.agg (fcC f), .agg (enC q)] w fun r w' => r = .returned (.bool (namF f q)) ∧ Ext w w' := by
  obtain ⟨h1, h2⟩ := blk_two (Ext.refl ((w.alloc (.cells (fcC f) 24)).alloc (.cells (enC q) 28)))
  have HE := Lib.hid (((Ext.refl w).alloc (.cells (fcC f) 24)).alloc (.cells (enC q) 28))
  have hq := nam_two f q
  have cre := fun w k => reaches_c f hf q (fun hv => by have k := may_v hm hv; exact ⟨k.l0, k.l2⟩) w k
  have cow := fun w => owns_c f q w
  generalize reachB f q = R at *
  generalize ownB f q = O at *
  go_enter Tryd.func14, Tryd.ntmps14
  go_wp2_with (fail); refine (asks15_c _).mono ?_; rintro e w' ⟨g, rfl, a0, a1, hE⟩; (try replace hz := hz.ext hE); (try replace hm := hm.ext hE); (try replace h1 := h1.ext hE); (try replace h2 := h2.ext hE); (try replace HE := Lib.hid (HE.out.trans hE))
  clear hE
  go_wp2
  go_loopw [9] (fun i wr => ∃ z : Int, i = .int .i64 z ∧ Hid (z = 0 ∨ (z = 1 ∧ R = true) ∨ (z = 2 ∧ R = true ∧ O = true)) ∧ wr.cell? ⟨g, 0, none⟩ = some (.func (.func 40) #[] #[]) ∧ wr.cell? ⟨g, 1, none⟩ = some (.func (.func 41) #[] #[]) ∧ Blk wr w.heap.size 24 (fcC f) ∧ Blk wr (w.heap.size + 1) 28 (enC q) ∧ Ext w wr) (fun i _ => (2 - intOf i).toNat)
  case atStart => exact ⟨0, rfl, Lib.hid (.inl rfl), a0, a1, h1, h2, HE.out⟩
  case round =>
    clear a0 a1 h1 h2 HE
    obtain ⟨z, rfl, hz, a0, a1, h1, h2, hE⟩ := hrel
    have HE := Lib.hid hE
    clear hE
    have hzz := hz.out
    clear hz
    rcases hzz with rfl | ⟨rfl, rfl⟩ | ⟨rfl, rfl, rfl⟩
    · skip
      go_wp2_with ((first | (refine wpList_load_blk (by rfl) 24 _ rfl rfl (by first | exact h1 | exact h2 | exact hz) Tryd.underlying24 rfl (by kernel_rfl) ?_) | (refine wpList_load_blk (by rfl) 28 _ rfl rfl (by first | exact h1 | exact h2 | exact hz) Tryd.underlying28 rfl (by kernel_rfl) ?_))); refine (cre _ (hT.ext HE.out)).mono ?_; rintro e w' ⟨rfl, hE⟩; (try replace hz := hz.ext hE); (try replace hm := hm.ext hE); (try replace h1 := h1.ext hE); (try replace h2 := h2.ext hE); (try replace HE := Lib.hid (HE.out.trans hE))
      replace a0 := ext_cell hE a0
      replace a1 := ext_cell hE a1
      clear hE cre cow
      cases R
      · go_wp2
        go_ret
        exact ⟨by rw [hq]; simp, HE.out⟩
      · go_wp2
        go_roundw
        case rel => exact ⟨1, by go_num, Lib.hid (by simp), a0, a1, h1, h2, HE.out⟩
        case measure => simp [intOf]
    · skip
      go_wp2_with ((first | (refine wpList_load_blk (by rfl) 24 _ rfl rfl (by first | exact h1 | exact h2 | exact hz) Tryd.underlying24 rfl (by kernel_rfl) ?_) | (refine wpList_load_blk (by rfl) 28 _ rfl rfl (by first | exact h1 | exact h2 | exact hz) Tryd.underlying28 rfl (by kernel_rfl) ?_))); refine (cow _).mono ?_; rintro e w' ⟨rfl, hE⟩; (try replace hz := hz.ext hE); (try replace hm := hm.ext hE); (try replace h1 := h1.ext hE); (try replace h2 := h2.ext hE); (try replace HE := Lib.hid (HE.out.trans hE))
      replace a0 := ext_cell hE a0
      replace a1 := ext_cell hE a1
      clear hE cre cow
      cases O
      · go_wp2
        go_ret
        exact ⟨by rw [hq]; simp, HE.out⟩
      · go_wp2
        go_roundw
        case rel => exact ⟨2, by go_num, Lib.hid (by simp), a0, a1, h1, h2, HE.out⟩
        case measure => simp [intOf]
    · have x0 := h2.en_v
      go_wp2
      go_ret
      exact ⟨by rw [hq]; simp, HE.out⟩
end Go.Proofs.YtlimipjfdecbfaaDoor
/- Package fence: fresh, Do, All. -/
namespace Go.Proofs.YtlimipjfdecbfaaDoor
open Go.ChangeShapes Go.WideShapes Go.ChangeAt Go.RowKit
set_option linter.unusedVariables false
set_option linter.unusedSimpArgs false
set_option maxRecDepth 10000

theorem fresh15_c (A : Option Addr) (L : List St) (c : Nat) (hL : L.length ≤ 1000) (w : World) (hr : RowV KS w A L c) :
    Calls Tryd.prog 32 #[.agg #[.slice A L.length c]] w (MadeT L w) := by
  obtain ⟨W0, hW⟩ : ∃ W0, W0 = (w.alloc (.cells #[.slice A L.length c] 37)).alloc (.cells #[.slice none 0 0] 37) := ⟨_, rfl⟩
  have HE : Hid (Ext w W0) := Lib.hid (by rw [hW]; exact ((Ext.refl w).alloc _).alloc _)
  have h1 : Blk W0 w.heap.size 37 #[.slice A L.length c] := by rw [hW]; exact (Blk.new w _ _).alloc _
  have h3 : Blk W0 (w.heap.size + 1) 37 #[.slice none 0 0] := by rw [hW]; exact blk_at (by simp)
  have x0 : W0.cell? ⟨w.heap.size, 0, none⟩ = some (.slice A L.length c) := (h1.cell 0).trans rfl
  have hcl := clone14_c A L c hL W0 (hr.ext HE.out)
  have hsz : w.heap.size + 2 = W0.heap.size := by rw [hW]; simp
  have HW := Lib.hid hW
  rw [hW] at x0
  clear hW hr
  go_enter Tryd.func32, Tryd.ntmps32
  go_wp2_with fail
  rw [← HW.out]
  refine hcl.mono ?_
  rintro e w3 ⟨v3, rfl, hown, hE3⟩
  obtain ⟨A2, c2, rfl, hr2, hn2⟩ := own_rowv ks_ok (L := L) hown
  replace h1 := h1.ext hE3
  replace h3 := (h3.ext hE3).apart (show w.heap.size + 1 ≠ w.heap.size by omega) #[.slice A2 L.length c2]
  replace HE := Lib.hid ((HE.out.trans hE3).row (Nat.le_refl _) #[.slice A2 L.length c2])
  have k1 := h1.row #[.slice A2 L.length c2]
  have HS : (#[.slice A L.length c] : Array Value).setIfInBounds 0 (.slice A2 L.length c2) = #[.slice A2 L.length c2] := rfl
  clear hown hE3 hcl
  go_wp2_with (first | (refine wpList_store_cell rfl 35 _ _ rfl rfl rfl h1 (by simp) HS (by kernel_rfl) rfl rfl ?_) | (refine wpList_load_blk (by rfl) 37 _ rfl rfl k1 Tryd.underlying37 rfl (by kernel_rfl) ?_) | (refine wpList_store_row rfl 37 _ _ rfl _ _ rfl rfl _ _ h3 (by kernel_rfl) (by rfl) (by simp [Value.oneCell']) ?_))
  (try simp only [Exit.inBlock, Exit.then]); refine bodyPost_ret (results_cell_row rfl _ _ _ _ _ _ _ rfl ((h3.row _)) Tryd.underlying37 rfl (by kernel_rfl)) rfl ?_
  exact ⟨A2, c2, rfl, (hr2.row (fun a h => by have := hn2 a h; omega) _).row (fun a h => by have := hn2 a h; omega) _, fun a h => by have := hn2 a h; omega, HE.out.row (by omega) _⟩
set_option maxRecDepth 100000 in
set_option maxHeartbeats 4000000 in
theorem do15_c (A : Option Addr) (L : List St) (c : Nat) (hrt : rightT L = true) (f : Fc) (hf : f.ok) (w : World) (hr : RowV KS w A L c) (hT : Lays w) :
    Calls Tryd.prog 20 #[.agg #[.slice A L.length c], .agg (fcC f)] w (MadeT (doF f L) w) := by
  have hL := rt_len hrt
  have h1 : Blk (((w.alloc (.cells #[.slice A L.length c] 37)).alloc (.cells (fcC f) 24)).alloc (.cells #[.slice none 0 0] 37)) w.heap.size 37 #[.slice A L.length c] := ((Blk.new w _ _).alloc _).alloc _
  have h2 : Blk (((w.alloc (.cells #[.slice A L.length c] 37)).alloc (.cells (fcC f) 24)).alloc (.cells #[.slice none 0 0] 37)) (w.heap.size + 1) 24 (fcC f) := (blk_at (by simp)).alloc _
  have h3 : Blk (((w.alloc (.cells #[.slice A L.length c] 37)).alloc (.cells (fcC f) 24)).alloc (.cells #[.slice none 0 0] 37)) (w.heap.size + 2) 37 #[.slice none 0 0] := blk_at (by simp)
  have HE := Lib.hid ((((Ext.refl w).alloc (.cells #[.slice A L.length c] 37)).alloc (.cells (fcC f) 24)).alloc (.cells #[.slice none 0 0] 37))
  have hfr := fresh15_c A L c (by omega) _ (hr.ext HE.out)
  have hmay := fun (i y : Nat) (hi : i < L.length) (hy : y < 4) => rt_may hrt hi hy
  clear hr hrt
  go_enter Tryd.func20, Tryd.ntmps20
  go_wp2_with ((refine wpList_load_blk (by rfl) 37 _ rfl rfl (by first | exact h1 | exact h2 | exact h3 | exact h4 | exact k1 | exact k2 | exact k3 | exact hb | exact hd) Tryd.underlying37 rfl (by kernel_rfl) ?_)); refine (hfr).mono ?_; rintro e w' ⟨A1, c1, rfl, r1, n1, hE⟩; (try replace hb := hb.ext hE); (try replace hd := hd.ext hE); (try replace h1 := h1.ext hE); (try replace h2 := h2.ext hE); (try replace h3 := h3.ext hE); (try replace h4 := h4.ext hE); (try replace k1 := k1.ext hE); (try replace k2 := k2.ext hE); (try replace k3 := k3.ext hE); (try replace HE := Lib.hid (HE.out.trans hE))
  clear hE hfr
  have n3 : ∀ a, A1 = some a → w.heap.size + 3 ≤ a.block := fun a h => by have := n1 a h; simpa using this
  have k1 := h1.row #[.slice A1 L.length c1]
  have k2 := h2.apart (show w.heap.size + 1 ≠ w.heap.size by omega) #[.slice A1 L.length c1]
  have k3 := h3.apart (show w.heap.size + 2 ≠ w.heap.size by omega) #[.slice A1 L.length c1]
  have q1 := r1.row (fun a h => by have := n3 a h; omega) #[.slice A1 L.length c1] (k := w.heap.size)
  replace HE := Lib.hid (HE.out.row (Nat.le_refl _) #[.slice A1 L.length c1])
  have x1 : (w'.setRow w.heap.size #[.slice A1 L.length c1]).cell? ⟨w.heap.size, 0, none⟩ = some (.slice A1 L.length c1) := (k1.cell 0).trans rfl
  clear n1 h2 h3 r1
  have HN := Lib.hid n3
  clear n3
  go_wp2_with (refine wpList_store_row rfl 37 _ _ rfl _ _ rfl rfl _ _ h1 (by kernel_rfl) (by rfl) (by simp [Value.oneCell']) ?_)
  clear h1 x1
  generalize w'.setRow w.heap.size #[.slice A1 L.length c1] = w1 at *
  go_loopw [14] (fun i wr => ∃ (k : Nat) (A' : Option Addr) (c' : Nat), k ≤ L.length ∧ i = .int .i64 k ∧ Blk wr w.heap.size 37 #[.slice A' L.length c'] ∧ RowV KS wr A' (pzT (namF f) L k 0) c' ∧ Hid (∀ a, A' = some a → w.heap.size + 3 ≤ a.block) ∧ RowV KS wr A1 L c1 ∧ Blk wr (w.heap.size + 1) 24 (fcC f) ∧ Blk wr (w.heap.size + 2) 37 #[.slice none 0 0] ∧ Ext w wr) (fun i _ => (L.length - intOf i).toNat)
  case atStart => exact ⟨0, A1, c1, by omega, rfl, k1, (by rw [pzT_0]; exact q1), HN, q1, k2, k3, HE.out⟩
  case round =>
    clear k1 k2 k3 q1 HE
    obtain ⟨k, A', c', hk, rfl, h1, r2, HM, r1, h2, h3, hE⟩ := hrel
    have HE := Lib.hid hE
    clear hE
    by_cases hlt : k < L.length
    · have hkz : (k : Int) < (L.length : Int) := by omega
      have hmy := fun y hy => hmay k y hlt hy
      have hkp := fun y => @pzT_keep (namF f) L k y
      have hdp := fun y => @pzT_drop (namF f) L k y hlt
      have hp4 := pzT_4 (namF f) L k
      obtain ⟨b, off, rfl, hb, hrx⟩ := r1.some (by omega)
      have e1 : wr.rangeAt b (off + k * 45) (stC (sT L k)).toList := by rw [sT_eq]; exact hrx k hlt
      have hix := fun q hq => index_ws (sT L k).ws (k := q) hq
      clear hk hrx hmay
      generalize sT L k = s at *
      have hE := (Ext.refl wr).alloc (.cells (stC s) 46)
      have h4 := Blk.new wr 46 (stC s)
      (try replace hb := hb.ext hE); (try replace hd := hd.ext hE); (try replace h1 := h1.ext hE); (try replace h2 := h2.ext hE); (try replace h3 := h3.ext hE); (try replace h4 := h4.ext hE); (try replace k1 := k1.ext hE); (try replace k2 := k2.ext hE); (try replace k3 := k3.ext hE); (try replace HE := Lib.hid (HE.out.trans hE)); (try replace r0 := r0.ext hE); (try replace r1 := r1.ext hE); (try replace r2 := r2.ext hE); (try replace r3 := r3.ext hE); (try replace r4 := r4.ext hE); (try replace r5 := r5.ext hE); (try replace r6 := r6.ext hE)
      clear hE
      go_wp2_with (first | (refine wpList_load_rng (w := wr) (by rfl) 46 _ rfl rfl e1 Tryd.underlying46 rfl (st_info _) ?_) | (refine wpList_store_new rfl 46 _ _ rfl (stC _) _ _ rfl rfl (st_info _) (by simp [stC_size]) (stC_one _) ?_) | (refine wpList_load_part (by rfl) 44 _ rfl rfl h4 (stC_ws s) Tryd.underlying44 rfl (ws_info _) ?_))
      generalize wr.alloc (.cells (stC s) 46) = wr1 at *
      clear h4 e1 hb
      go_loopw [21] (fun i wx => ∃ (y : Nat) (A' : Option Addr) (c' : Nat), y ≤ 4 ∧ i = .int .i64 y ∧ Blk wx w.heap.size 37 #[.slice A' L.length c'] ∧ RowV KS wx A' (pzT (namF f) L k y) c' ∧ Hid (∀ a, A' = some a → w.heap.size + 3 ≤ a.block) ∧ RowV KS wx (some ⟨b, off, none⟩) L c1 ∧ Blk wx (w.heap.size + 1) 24 (fcC f) ∧ Blk wx (w.heap.size + 2) 37 #[.slice none 0 0] ∧ Ext w wx) (fun i _ => (4 - intOf i).toNat)
      case atStart => exact ⟨0, A', c', by omega, rfl, h1, r2, HM, r1, h2, h3, HE.out⟩
      case round =>
        clear h1 r2 HM r1 h2 h3 HE
        obtain ⟨y, A2, c2, hy, rfl, h1, r2, HM, r1, h2, h3, hE⟩ := hrel
        have HE := Lib.hid hE
        clear hE
        by_cases hyl : y < 4
        · have hyz : (y : Int) < 4 := by omega
          have hiq := hix y hyl
          have hme := hmy y hyl
          have hk1 := hkp y
          have hd1 := hdp y
          have cdr := fun w h k' => drop14p_c A2 (pzT (namF f) L k y) c2 (by rw [pzT_len]; omega) k y (by rw [pzT_len]; exact hlt) hyl w h k'
          rw [pzT_len] at cdr
          have cnm := fun w k => names15_c f hf _ hme w k
          clear hix hmy hkp hdp hp4 hy hme
          generalize s.ws.at y = e at *
          have hE := (Ext.refl wr).alloc (.cells (enC e) 28)
          have h4 := Blk.new wr 28 (enC e)
          (try replace hb := hb.ext hE); (try replace hd := hd.ext hE); (try replace h1 := h1.ext hE); (try replace h2 := h2.ext hE); (try replace h3 := h3.ext hE); (try replace h4 := h4.ext hE); (try replace k1 := k1.ext hE); (try replace k2 := k2.ext hE); (try replace k3 := k3.ext hE); (try replace HE := Lib.hid (HE.out.trans hE)); (try replace r0 := r0.ext hE); (try replace r1 := r1.ext hE); (try replace r2 := r2.ext hE); (try replace r3 := r3.ext hE); (try replace r4 := r4.ext hE); (try replace r5 := r5.ext hE); (try replace r6 := r6.ext hE)
          clear hE
          go_wp2_with (first | (refine wpList_store_new rfl 28 _ _ rfl (enC _) _ _ rfl rfl (en_info _) (by simp [enC_size]) (enC_one _) ?_) | (refine wpList_load_blk (by rfl) 24 _ rfl rfl (by first | exact h1 | exact h2 | exact h3 | exact h4 | exact k1 | exact k2 | exact k3 | exact hb | exact hd) Tryd.underlying24 rfl (by kernel_rfl) ?_) | (refine wpList_load_blk (by rfl) 28 _ rfl rfl (by first | exact h1 | exact h2 | exact h3 | exact h4 | exact k1 | exact k2 | exact k3 | exact hb | exact hd) Tryd.underlying28 rfl (by kernel_rfl) ?_))
          refine (cnm _ (hT.ext HE.out)).mono ?_
          rintro e9 w' ⟨rfl, hE⟩
          (try replace hb := hb.ext hE); (try replace hd := hd.ext hE); (try replace h1 := h1.ext hE); (try replace h2 := h2.ext hE); (try replace h3 := h3.ext hE); (try replace h4 := h4.ext hE); (try replace k1 := k1.ext hE); (try replace k2 := k2.ext hE); (try replace k3 := k3.ext hE); (try replace HE := Lib.hid (HE.out.trans hE)); (try replace r0 := r0.ext hE); (try replace r1 := r1.ext hE); (try replace r2 := r2.ext hE); (try replace r3 := r3.ext hE); (try replace r4 := r4.ext hE); (try replace r5 := r5.ext hE); (try replace r6 := r6.ext hE)
          clear hE cnm h4 hiq
          cases hB : namF f e
          · rw [← hk1 hB] at r2
            clear hk1 hd1 cdr hB
            go_wp2
            go_roundw
            case rel => exact ⟨y + 1, A2, c2, by omega, by go_num, h1, r2, HM, r1, h2, h3, HE.out⟩
            case measure => simp [intOf]; omega
          · unfold MadeTI at cdr
            rw [hd1 hB, pzT_len] at cdr
            clear hk1 hd1 hB
            have l3 := h3.lt
            go_wp2_with ((refine wpList_load_blk (by rfl) 37 _ rfl rfl (by first | exact h1 | exact h2 | exact h3 | exact h4 | exact k1 | exact k2 | exact k3 | exact hb | exact hd) Tryd.underlying37 rfl (by kernel_rfl) ?_)); refine (cdr _ r2 (hT.ext HE.out)).mono ?_; rintro e w' ⟨A3, c3, rfl, r3, n3, hE⟩; (try replace hb := hb.ext hE); (try replace hd := hd.ext hE); (try replace h1 := h1.ext hE); (try replace h2 := h2.ext hE); (try replace h3 := h3.ext hE); (try replace h4 := h4.ext hE); (try replace k1 := k1.ext hE); (try replace k2 := k2.ext hE); (try replace k3 := k3.ext hE); (try replace HE := Lib.hid (HE.out.trans hE)); (try replace r0 := r0.ext hE); (try replace r1 := r1.ext hE); (try replace r2 := r2.ext hE); (try replace r3 := r3.ext hE); (try replace r4 := r4.ext hE); (try replace r5 := r5.ext hE); (try replace r6 := r6.ext hE); clear hE
            clear cdr
            have HN3 : Hid (∀ a, A3 = some a → w.heap.size + 3 ≤ a.block) := Lib.hid fun a h => by have := n3 a h; omega
            have k1 := h1.row #[.slice A3 L.length c3]
            have k2 := h2.apart (show w.heap.size + 1 ≠ w.heap.size by omega) #[.slice A3 L.length c3]
            have k3 := h3.apart (show w.heap.size + 2 ≠ w.heap.size by omega) #[.slice A3 L.length c3]
            have q3 := r3.row (fun a h => by have := HN3.out a h; omega) #[.slice A3 L.length c3] (k := w.heap.size)
            have q1 := r1.row (fun a h => by have := HN.out a h; omega) #[.slice A3 L.length c3] (k := w.heap.size)
            replace HE := Lib.hid (HE.out.row (Nat.le_refl _) #[.slice A3 L.length c3])
            clear h2 h3 r1 r2 r3 n3 l3
            go_wp2_with (refine wpList_store_row rfl 37 _ _ rfl _ _ rfl rfl _ _ h1 (by kernel_rfl) (by rfl) (by simp [Value.oneCell']) ?_)
            go_roundw
            case rel => exact ⟨y + 1, A3, c3, by omega, by go_num, k1, q3, HN3, q1, k2, k3, HE.out⟩
            case measure => simp [intOf]; omega
        · obtain rfl : y = 4 := by omega
          rw [hp4] at r2
          clear hix hmy hkp hdp
          go_wp2
          go_roundw
          case rel => exact ⟨k + 1, A2, c2, by omega, by go_num, h1, r2, HM, r1, h2, h3, HE.out⟩
          case measure => simp [intOf]; omega
    · obtain rfl : k = L.length := by omega
      have hpe := pzT_end (namF f) L
      have hl : (doF f L).length = L.length := doF_len f L
      have hd : zapT (namF f) L = doF f L := by unfold doF; rfl
      rw [hpe, hd] at r2
      clear hpe hd hmay hk hlt
      have hm3 := HM.out
      go_wp2_with (first | (refine wpList_load_blk (by rfl) 37 _ rfl rfl (by first | exact h1 | exact h2 | exact h3 | exact h4 | exact k1 | exact k2 | exact k3 | exact hb | exact hd) Tryd.underlying37 rfl (by kernel_rfl) ?_) | (refine wpList_store_row rfl 37 _ _ rfl _ _ rfl rfl _ _ h3 (by kernel_rfl) (by rfl) (by simp [Value.oneCell']) ?_))
      (try simp only [Exit.inBlock, Exit.then]); refine bodyPost_ret (results_cell_row rfl _ _ _ _ _ _ _ rfl ((h3.row _)) Tryd.underlying37 rfl (by kernel_rfl)) rfl ?_
      exact ⟨A', c', by rw [hl], r2.row (fun a h => by have := hm3 a h; omega) _, fun a h => by have := hm3 a h; omega, HE.out.row (by omega) _⟩
set_option maxRecDepth 100000 in
set_option maxHeartbeats 4000000 in
theorem all15_c (A : Option Addr) (L : List St) (c : Nat) (hrt : rightT L = true) (B : Option Addr) (M : List Fc) (d : Nat) (hok : ∀ i, i < M.length → (M.getD i fc0).ok) (w : World) (hr : RowV KS w A L c) (hm : RowV KF w B M d) (hT : Lays w) :
    Calls Tryd.prog 18 #[.agg #[.slice A L.length c], .slice B M.length d] w (MadeT (allF M L) w) := by
  have hL := rt_len hrt
  have h1 : Blk ((w.alloc (.cells #[.slice A L.length c] 37)).alloc (.cells #[.slice none 0 0] 37)) w.heap.size 37 #[.slice A L.length c] := (Blk.new w _ _).alloc _
  have h3 : Blk ((w.alloc (.cells #[.slice A L.length c] 37)).alloc (.cells #[.slice none 0 0] 37)) (w.heap.size + 1) 37 #[.slice none 0 0] := blk_at (by simp)
  have HE := Lib.hid (((Ext.refl w).alloc (.cells #[.slice A L.length c] 37)).alloc (.cells #[.slice none 0 0] 37))
  have hfr := fresh15_c A L c (by omega) _ (hr.ext HE.out)
  have hML := hm.2.2
  clear hr
  go_enter Tryd.func18, Tryd.ntmps18
  go_wp2_with ((refine wpList_load_blk (by rfl) 37 _ rfl rfl (by first | exact h1 | exact h3 | exact h4 | exact k1 | exact k3) Tryd.underlying37 rfl (by kernel_rfl) ?_)); refine (hfr).mono ?_; rintro e w' ⟨A1, c1, rfl, r1, n1, hE⟩; (try replace hm := hm.ext hE); (try replace h1 := h1.ext hE); (try replace h3 := h3.ext hE); (try replace h4 := h4.ext hE); (try replace k1 := k1.ext hE); (try replace k3 := k3.ext hE); (try replace HE := Lib.hid (HE.out.trans hE))
  clear hE hfr
  have HN : Hid (∀ a, A1 = some a → w.heap.size + 2 ≤ a.block) := Lib.hid fun a h => by have := n1 a h; simpa using this
  have k1 := h1.row #[.slice A1 L.length c1]
  have k3 := h3.apart (show w.heap.size + 1 ≠ w.heap.size by omega) #[.slice A1 L.length c1]
  have q1 := r1.row (fun a h => by have := HN.out a h; omega) #[.slice A1 L.length c1] (k := w.heap.size)
  replace HE := Lib.hid (HE.out.row (Nat.le_refl _) #[.slice A1 L.length c1])
  clear n1 h3 r1
  go_wp2_with (refine wpList_store_row rfl 37 _ _ rfl _ _ rfl rfl _ _ h1 (by kernel_rfl) (by rfl) (by simp [Value.oneCell']) ?_)
  clear h1
  generalize w'.setRow w.heap.size #[.slice A1 L.length c1] = w1 at *
  go_loopw [11] (fun i wr => ∃ (k : Nat) (A' : Option Addr) (c' : Nat), k ≤ M.length ∧ i = .int .i64 k ∧ Blk wr w.heap.size 37 #[.slice A' L.length c'] ∧ RowV KS wr A' (allF (M.take k) L) c' ∧ Hid (∀ a, A' = some a → w.heap.size + 2 ≤ a.block) ∧ Blk wr (w.heap.size + 1) 37 #[.slice none 0 0] ∧ Ext w wr) (fun i _ => (M.length - intOf i).toNat)
  case atStart => exact ⟨0, A1, c1, by omega, rfl, k1, (by rw [allF_0]; exact q1), HN, k3, HE.out⟩
  case round =>
    clear k1 k3 q1 HE HN
    obtain ⟨k, A', c', hk, rfl, h1, r2, HM, h3, hE⟩ := hrel
    have HE := Lib.hid hE
    clear hE
    by_cases hlt : k < M.length
    · have hkz : (k : Int) < (M.length : Int) := by omega
      obtain ⟨b2, off2, rfl, hb2, hrx⟩ := hm.some (by omega)
      have e3 : wr.rangeAt b2 (off2 + k * 4) (fcC (M.getD k fc0)).toList := rgx_ext HE.out (hrx k hlt)
      have hbn : b2 < wr.heap.size := Nat.lt_of_lt_of_le hb2 HE.out.size
      have cdo := fun w h k' => do15_c A' (allF (M.take k) L) c' (rt_allF hrt _) (M.getD k fc0) (hok k hlt) w h k'
      unfold MadeT at cdo
      rw [allF_len, allF_take M hlt L, allF_len] at cdo
      clear hrx hb2 hk hok hm
      generalize M.getD k fc0 = f at *
      have hE := (Ext.refl wr).alloc (.cells (fcC f) 24)
      have h4 := Blk.new wr 24 (fcC f)
      have l3 := h3.lt
      (try replace hm := hm.ext hE); (try replace h1 := h1.ext hE); (try replace h3 := h3.ext hE); (try replace h4 := h4.ext hE); (try replace k1 := k1.ext hE); (try replace k3 := k3.ext hE); (try replace HE := Lib.hid (HE.out.trans hE)); (try replace r0 := r0.ext hE); (try replace r1 := r1.ext hE); (try replace r2 := r2.ext hE); (try replace r3 := r3.ext hE); (try replace r4 := r4.ext hE); (try replace r5 := r5.ext hE); (try replace r6 := r6.ext hE)
      clear hE
      go_wp2_with (first | (refine wpList_load_rng (w := wr) (by rfl) 24 _ rfl rfl e3 Tryd.underlying24 rfl (fc_info _) ?_) | (refine wpList_store_new rfl 24 _ _ rfl (fcC _) _ _ rfl rfl (fc_info _) (by simp [fcC_size]) (fcC_one _) ?_) | (refine wpList_load_blk (by rfl) 37 _ rfl rfl (by first | exact h1 | exact h3 | exact h4 | exact k1 | exact k3) Tryd.underlying37 rfl (by kernel_rfl) ?_) | (refine wpList_load_blk (by rfl) 24 _ rfl rfl (by first | exact h1 | exact h3 | exact h4 | exact k1 | exact k3) Tryd.underlying24 rfl (by kernel_rfl) ?_))
      refine (cdo _ r2 (hT.ext HE.out)).mono ?_
      rintro e9 w' ⟨A3, c3, rfl, r3, n3, hE⟩
      (try replace hm := hm.ext hE); (try replace h1 := h1.ext hE); (try replace h3 := h3.ext hE); (try replace h4 := h4.ext hE); (try replace k1 := k1.ext hE); (try replace k3 := k3.ext hE); (try replace HE := Lib.hid (HE.out.trans hE)); (try replace r0 := r0.ext hE); (try replace r1 := r1.ext hE); (try replace r2 := r2.ext hE); (try replace r3 := r3.ext hE); (try replace r4 := r4.ext hE); (try replace r5 := r5.ext hE); (try replace r6 := r6.ext hE)
      clear hE cdo h4 e3
      have HN3 : Hid (∀ a, A3 = some a → w.heap.size + 2 ≤ a.block) := Lib.hid fun a h => by have := n3 a h; simp at this; omega
      have k1 := h1.row #[.slice A3 L.length c3]
      have k3 := h3.apart (show w.heap.size + 1 ≠ w.heap.size by omega) #[.slice A3 L.length c3]
      have q3 := r3.row (fun a h => by have := HN3.out a h; omega) #[.slice A3 L.length c3] (k := w.heap.size)
      replace HE := Lib.hid (HE.out.row (Nat.le_refl _) #[.slice A3 L.length c3])
      clear h3 r2 r3 n3 l3
      go_wp2_with (refine wpList_store_row rfl 37 _ _ rfl _ _ rfl rfl _ _ h1 (by kernel_rfl) (by rfl) (by simp [Value.oneCell']) ?_)
      go_roundw
      case rel => exact ⟨k + 1, A3, c3, by omega, by go_num, k1, q3, HN3, k3, HE.out⟩
      case measure => simp [intOf]; omega
    · obtain rfl : k = M.length := by omega
      rw [List.take_length] at r2
      have hl := allF_len M L
      have hm3 := HM.out
      clear hm hok hk hlt
      go_wp2_with (first | (refine wpList_load_blk (by rfl) 37 _ rfl rfl (by first | exact h1 | exact h3 | exact h4 | exact k1 | exact k3) Tryd.underlying37 rfl (by kernel_rfl) ?_) | (refine wpList_store_row rfl 37 _ _ rfl _ _ rfl rfl _ _ h3 (by kernel_rfl) (by rfl) (by simp [Value.oneCell']) ?_))
      (try simp only [Exit.inBlock, Exit.then]); refine bodyPost_ret (results_cell_row rfl _ _ _ _ _ _ _ rfl ((h3.row _)) Tryd.underlying37 rfl (by kernel_rfl)) rfl ?_
      exact ⟨A', c', by rw [hl], r2.row (fun a h => by have := hm3 a h; omega) _, fun a h => by have := hm3 a h; omega, HE.out.row (by omega) _⟩
end Go.Proofs.YtlimipjfdecbfaaDoor
/- A region in which, behind a common beginning, two operations may come up, and behind each of them again two, and so on: a tree of walks. -/
namespace Go.Proofs.YtlimipjfdecbfaaDoor
open Go.RowKit
set_option linter.unusedVariables false
set_option linter.unusedSimpArgs false

inductive Plan where
  | last (π : List (Nat × Bool))
  | fork (π : List (Nat × Bool)) (i : Nat) (p : Plan) (j : Nat) (q : Plan)
/-- how many operations it lists -/
def Plan.len : Plan → Nat
  | .last π => π.length
  | .fork π _ p _ _ => π.length + (p.len + 1)
/-- may they come up so? -/
def Plan.ok (l : List Oper) : Plan → Array Bool → Bool
  | .last π, m => orderB .any l.toArray π m
  | .fork π i p j q, m => match afterB .any l.toArray π m with
    | some mid => (Region.ready .any l.toArray mid == [i, j]) && ((p.len == q.len) && (p.ok l (mid.setIfInBounds i true) && q.ok l (mid.setIfInBounds j true)))
    | none => false
/-- what is to be shown: each walk -/
def Plan.wp (P : Program) (l : List Oper) (R : World → World → Prop) (Q : Exit → Act → World → Prop) : Plan → Act → World → Prop
  | .last π, a, w => wpSeq P l.toArray R (Calm Q) (Q .normal) (π.map fun p => (nth l p.1, p.2)) a w
  | .fork π i p j q, a, w => wpSeq P l.toArray R (Calm Q) (fun a w => wpSeq P l.toArray R (Calm Q) (p.wp P l R Q) [(nth l i, true)] a w ∧ wpSeq P l.toArray R (Calm Q) (q.wp P l R Q) [(nth l j, true)] a w) (π.map fun p => (nth l p.1, p.2)) a w
theorem Plan.any {P : Program} {Q : Exit → Act → World → Prop} {R : World → World → Prop} {l : List Oper} (hr0 : ∀ x, R x x) (ht : ∀ x y z, R x y → R y z → R x z) (hs : Region.noSelect l.toArray = true) :
    ∀ (p : Plan) (m : Array Bool) (a : Act) (w : World), p.ok l m = true → p.wp P l R Q a w → wpAnyE P .any l.toArray (Calm Q) R p.len m a w
  | .last π, m, a, w, ho, h => by
    obtain ⟨fin, hf, he⟩ := orderB_spec ho
    have := wpAnyE_of_seq (P := P) (md := .any) (Q := Calm Q) (n := 0) (fin := fin) hr0 ht hs (fun _ _ _ _ _ h => (h : False).elim) (fun a w hn => wpAnyE_done he hn) π _ a w hf h
    rwa [Nat.add_zero] at this
  | .fork π i p j q, m, a, w, ho, h => by
    unfold Plan.ok at ho
    cases hmid : afterB .any l.toArray π m with
    | none => rw [hmid] at ho; cases ho
    | some mid =>
      rw [hmid] at ho
      simp only [Bool.and_eq_true, beq_iff_eq] at ho
      obtain ⟨hr, hl, h1, h2⟩ := ho
      exact wpAnyE_of_seq (P := P) (md := .any) (Q := Calm Q) (n := p.len + 1) (fin := mid) hr0 ht hs (fun _ _ _ _ _ h => (h : False).elim) (fun a w hn => by
        refine anyE_fork hr hn.1 hn.2 (fun a w hi => Plan.any hr0 ht hs p _ a w h1 hi) (fun a w hj => ?_)
        have := Plan.any hr0 ht hs q _ a w h2 hj
        rwa [← hl] at this) π _ a w hmid h
/-- **A TREE OF WALKS.** -/
theorem wp_region_plan (p : Plan) (R : World → World → Prop) {id : Nat} {Q : Exit → Act → World → Prop} {a : Act} {w : World} {P : Program} {l : List Oper} (hm : P.follows .mixedOrders = true)
    (hB : (Region.noSelect l.toArray && ((p.len == l.length) && p.ok l (Array.replicate l.length false))) = true) (hr0 : ∀ x, R x x) (ht : ∀ x y z, R x y → R y z → R x z)
    (h : p.wp P l R Q a w.drew) : (Code.region id l.toArray true).wp P Q a w := by
  simp only [Bool.and_eq_true, beq_iff_eq] at hB
  obtain ⟨hs, hl, ho⟩ := hB
  refine Code.wp_mono Calm.imp (wp_region_held (S := fun _ => True) hm ?_)
  have key := Plan.any (P := P) (Q := Q) hr0 ht hs p _ a w.drew ho h (fun _ => True) (fun _ _ _ _ => trivial) trivial
  rw [hl] at key
  simpa using key
end Go.Proofs.YtlimipjfdecbfaaDoor
