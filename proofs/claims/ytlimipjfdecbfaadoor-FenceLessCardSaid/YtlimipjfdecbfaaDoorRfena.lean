/- The document's answers for layer 15 (package atlasref15): Names, Do, All. -/
import Derived.Test.YtlimipjfdecbfaaDoorMfena
import Derived.Test.YtlimipjfdecbfaaDoorRtlbx
import Derived.Test.YtlimipjfdecbfaaDoorLaw14x
namespace Go.Proofs.YtlimipjfdecbfaaDoor
open Go.ChangeShapes Go.WideShapes Go.ChangeAt Go.RowKit
set_option linter.unusedVariables false
set_option linter.unusedSimpArgs false
set_option maxRecDepth 10000

/-- fences in a row -/
def KF : Wide Fc := ⟨24, 38, 4, 32, fcC, fc0⟩
theorem kf_ok : WideOk KF := ⟨fcC_size, fcC_one, by decide, Tryd.underlying38, ⟨.agg #[.bool false, .int .u64 0, .bool false, .int .u64 0], by kernel_rfl, rfl⟩⟩
theorem rnames15_c (f : Fc) (hf : f.ok) (q : En) (hm : mayE q = true) (w : World) :
    Calls Tryd.prog 15 #[.agg (fcC f), .agg (enC q)] w fun r w' => r = .returned (.bool (namF f q)) ∧ Ext w w' := by
  obtain ⟨h1, h2⟩ := blk_two (Ext.refl ((w.alloc (.cells (fcC f) 24)).alloc (.cells (enC q) 28)))
  have HE := Lib.hid (((Ext.refl w).alloc (.cells (fcC f) 24)).alloc (.cells (enC q) 28))
  have hq := nam_eq f q
  have x0 := h2.en_v
  have y0 := h1.fc.1
  have y1 := h1.fc.2.1
  have hf1 := hf.1
  have cis := fun w => ris5_c (f.ad : Int) (by omega) (by omega) w
  have ccv := fun hv w => rcovers_c q hm (f.ad : Int) hv (by omega) (by omega) w
  cases hv : q.v
  · rw [hv] at x0 hq
    clear cis ccv
    go_enter Tryd.func15, Tryd.ntmps15
    go_wp2
    go_ret
    exact ⟨by rw [hq]; rfl, HE.out⟩
  rw [hv] at x0 hq
  cases ha : f.ha
  · rw [ha] at y0 hq
    clear cis ccv y1
    go_enter Tryd.func15, Tryd.ntmps15
    have x1 := h2.en_n
    have x2 := h2.en_g
    have y2 := h1.fc.2.2.1
    have y3 := h1.fc.2.2.2
    cases hn : f.hn
    · rw [hn] at y2 hq
      go_wp2
      go_ret
      exact ⟨by rw [hq]; rfl, HE.out⟩
    · rw [hn] at y2 hq
      cases hg : q.g
      · rw [hg] at x2 hq
        go_wp2
        go_ret
        exact ⟨by rw [hq]; simp, HE.out⟩
      · rw [hg] at x2 hq
        go_wp2
        go_ret
        exact ⟨by rw [hq]; rfl, HE.out⟩
  rw [ha] at y0 hq
  cases hva : vaB (f.ad : Int)
  · rw [hva] at cis
    have hc : covE q f.ad = false := by
      cases hc : covE q f.ad
      · rfl
      · unfold covE at hc; rw [hva] at hc; simp at hc
    rw [hc] at hq
    clear ccv
    go_enter Tryd.func15, Tryd.ntmps15
    go_wp2_with (fail); refine (calls_ext (cis _)).mono ?_; rintro e w' ⟨rfl, hE⟩; (try replace hb := hb.ext hE); (try replace hc := hc.ext hE); (try replace hm := hm.ext hE); (try replace h1 := h1.ext hE); (try replace h2 := h2.ext hE); (try replace HE := Lib.hid (HE.out.trans hE))
    clear hE
    go_wp2
    go_ret
    exact ⟨by rw [hq]; rfl, HE.out⟩
  rw [hva] at cis
  replace ccv := ccv hva
  have hcv : ∃ b, covE q f.ad = b := ⟨_, rfl⟩
  obtain ⟨b, hb⟩ := hcv
  rw [hb] at ccv hq
  clear hb
  go_enter Tryd.func15, Tryd.ntmps15
  go_wp2_with (fail); refine (calls_ext (cis _)).mono ?_; rintro e w' ⟨rfl, hE⟩; (try replace hb := hb.ext hE); (try replace hc := hc.ext hE); (try replace hm := hm.ext hE); (try replace h1 := h1.ext hE); (try replace h2 := h2.ext hE); (try replace HE := Lib.hid (HE.out.trans hE))
  clear hE x0 y0 y1
  have y1 := h1.fc.2.1
  go_wp2_with ((refine wpList_load_blk (by rfl) 28 _ rfl rfl (by first | exact h1 | exact h2 | exact hb | exact hc) Tryd.underlying28 rfl (by kernel_rfl) ?_)); refine (ccv _).mono ?_; rintro e w' ⟨rfl, hE⟩; (try replace hb := hb.ext hE); (try replace hc := hc.ext hE); (try replace hm := hm.ext hE); (try replace h1 := h1.ext hE); (try replace h2 := h2.ext hE); (try replace HE := Lib.hid (HE.out.trans hE))
  clear hE cis ccv y1
  cases b
  · go_wp2
    go_ret
    exact ⟨by rw [hq]; rfl, HE.out⟩
  · skip
    have x1 := h2.en_n
    have x2 := h2.en_g
    have y2 := h1.fc.2.2.1
    have y3 := h1.fc.2.2.2
    cases hn : f.hn
    · rw [hn] at y2 hq
      go_wp2
      go_ret
      exact ⟨by rw [hq]; rfl, HE.out⟩
    · rw [hn] at y2 hq
      cases hg : q.g
      · rw [hg] at x2 hq
        go_wp2
        go_ret
        exact ⟨by rw [hq]; simp, HE.out⟩
      · rw [hg] at x2 hq
        go_wp2
        go_ret
        exact ⟨by rw [hq]; rfl, HE.out⟩
/-- one set behind a row of sets that the call made -/
theorem below_append {α : Type} {K : Wide α} (hK : WideOk K) (w : World) (base : Nat) (v : Value) (M : List α) (hown : w.ownsRow base K.e K.sz v M.length (K.flat M)) (x : α) (hn : (M.length + 1) * K.by' ≤ 140737488355328) (hm : M.length + 1 ≤ maxLen) (hb : base ≤ w.heap.size) (ty : TypeId) :
    ∃ v' w', (Builtin.append_ #[K.sl, K.sl] ty #[v, .slice (some ⟨w.heap.size, 0, none⟩) 1 1]).run Tryd.prog (w.alloc (.cells (K.cf x) K.e)) = .ok v' w' ∧
      w'.ownsRow base K.e K.sz v' (M ++ [x]).length (K.flat (M ++ [x])) ∧ Below base w w' := by
  have hblk := Blk.new w K.e (K.cf x)
  have hrow : RowV K (w.alloc (.cells (K.cf x) K.e)) (some ⟨w.heap.size, 0, none⟩) [x] 1 := by
    refine ⟨fun _ => ⟨w.heap.size, 0, rfl, hblk.lt, fun i hi => ?_⟩, (fun h => by cases h), (by simp), (by omega)⟩
    obtain rfl : i = 0 := by simp at hi; omega
    have := hblk.part 0 (ds := K.cf x) (by rw [Nat.zero_add]; simp)
    simpa using this
  have hown1 := World.ownsRow.alloc hown (.cells (K.cf x) K.e)
  obtain ⟨v', w', h1, h2, h3, _⟩ := run_append_row hK (w.alloc (.cells (K.cf x) K.e)) base v M.length (K.flat M) hown1 (some ⟨w.heap.size, 0, none⟩) [x] 1 hrow (by simpa using hn) (by simpa using hm) (by simp; omega) ty
  refine ⟨v', w', h1, by rw [flat_app, List.length_append]; exact h2, ?_⟩
  exact Below.grown (Below.alloc (Below.refl _ _) hb _) h3 (by simp; omega) (fun k hk => (hown1.lt k hk).1)
/-- a row of the call's own, behind a store into another block -/
theorem own_apart15 {w : World} {base n k sz : Nat} {e : TypeId} {v : Value} {xs : List Value} (h : w.ownsRow base e sz v n xs) (hk : v.ownBlock ≠ some k) (ds : Array Value) : (w.setRow k ds).ownsRow base e sz v n xs := by
  refine ⟨h.1, ?_⟩
  rcases h.2 with h0 | ⟨g, cap, cur, hv, hbg, hg, h3⟩
  · exact .inl h0
  · refine .inr ⟨g, cap, cur, hv, hbg, Blk.apart (t := e) hg (fun hc => hk ?_) ds, h3⟩
    subst hv hc; rfl
/-- a slice of one set, as the model lays it -/
theorem st_fold (s : St) : Array.foldl (fun (cs : Array Value) (x : Value × Nat) => cs.setIfInBounds x.snd x.fst) #[.bool false, .int .u64 0, .bool false, .int .i64 0, .int .u64 0, .int .u64 0, .bool false, .bool false, .bool false, .bool false, .bool false, .bool false, .int .u64 0, .bool false, .int .i64 0, .int .u64 0, .int .u64 0, .bool false, .bool false, .bool false, .bool false, .bool false, .bool false, .int .u64 0, .bool false, .int .i64 0, .int .u64 0, .int .u64 0, .bool false, .bool false, .bool false, .bool false, .bool false, .bool false, .int .u64 0, .bool false, .int .i64 0, .int .u64 0, .int .u64 0, .bool false, .bool false, .bool false, .bool false, .bool false, .int .u8 0] (stC s).zipIdx 0 45 = stC s := by
  simp only [stC_eq, wsC_eq, enC_eq, pmC_eq]
  kernel_rfl
end Go.Proofs.YtlimipjfdecbfaaDoor
/- The document's answers for layer 15 (package atlasref15): Do, All. -/
namespace Go.Proofs.YtlimipjfdecbfaaDoor
open Go.ChangeShapes Go.WideShapes Go.ChangeAt Go.RowKit
set_option linter.unusedVariables false
set_option linter.unusedSimpArgs false
set_option maxRecDepth 10000

theorem doF_take (f : Fc) {L : List St} {k : Nat} (hk : k < L.length) : doF f (L.take (k + 1)) = doF f (L.take k) ++ [zapQ (namF f) 4 (sT L k)] := by
  unfold doF; rw [zapT_take _ hk, zapQ_4]
theorem doF_all (f : Fc) (L : List St) : doF f (L.take L.length) = doF f L := by rw [List.take_length]
theorem doF_none (f : Fc) (L : List St) : doF f (L.take 0) = [] := by unfold doF zapT; rfl
theorem doF_tlen (f : Fc) {L : List St} {k : Nat} (hk : k ≤ L.length) : (doF f (L.take k)).length = k := by rw [doF_len, List.length_take]; omega
set_option maxRecDepth 100000 in
set_option maxHeartbeats 4000000 in
theorem rdo15_c (A : Option Addr) (L : List St) (c : Nat) (hrt : rightT L = true) (f : Fc) (hf : f.ok) (w : World) (hr : RowV KS w A L c) :
    Calls Tryd.prog 21 #[.agg #[.slice A L.length c], .agg (fcC f)] w (MadeT (doF f L) w) := by
  have hL := rt_len hrt
  have h1 : Blk (((w.alloc (.cells #[.slice A L.length c] 37)).alloc (.cells (fcC f) 24)).alloc (.cells #[.slice none 0 0] 37)) w.heap.size 37 #[.slice A L.length c] := ((Blk.new w _ _).alloc _).alloc _
  have h2 : Blk (((w.alloc (.cells #[.slice A L.length c] 37)).alloc (.cells (fcC f) 24)).alloc (.cells #[.slice none 0 0] 37)) (w.heap.size + 1) 24 (fcC f) := (blk_at (by simp)).alloc _
  have h3 : Blk (((w.alloc (.cells #[.slice A L.length c] 37)).alloc (.cells (fcC f) 24)).alloc (.cells #[.slice none 0 0] 37)) (w.heap.size + 2) 37 #[.slice none 0 0] := blk_at (by simp)
  have HE := Lib.hid ((((Ext.refl w).alloc (.cells #[.slice A L.length c] 37)).alloc (.cells (fcC f) 24)).alloc (.cells #[.slice none 0 0] 37))
  have hrow : ∀ W : World, Ext w W → RowV KS W A L c := fun W h => hr.ext h
  have hmay := fun (i y : Nat) (hi : i < L.length) (hy : y < 4) => rt_may hrt hi hy
  clear hr hrt
  go_enter Tryd.func21, Tryd.ntmps21
  go_wp2
  go_loopw [5, 6] (fun v i wr => ∃ k : Nat, k ≤ L.length ∧ i = .int .i64 k ∧ wr.ownsRow (w.heap.size + 3) KS.e KS.sz v (doF f (L.take k)).length (KS.flat (doF f (L.take k))) ∧ w.heap.size + 3 ≤ wr.heap.size ∧ Blk wr w.heap.size 37 #[.slice A L.length c] ∧ Blk wr (w.heap.size + 1) 24 (fcC f) ∧ Blk wr (w.heap.size + 2) 37 #[.slice none 0 0] ∧ Ext w wr) (fun _ i _ => (L.length - intOf i).toNat)
  case atStart => exact ⟨0, by omega, rfl, by rw [doF_none]; exact World.ownsRow_nil _ _ _ _, by simp, h1, h2, h3, HE.out⟩
  case round =>
    clear h1 h2 h3 HE
    obtain ⟨k, hk, rfl, hown, hsz, h1, h2, h3, hE⟩ := hrel
    have HE := Lib.hid hE
    clear hE
    by_cases hlt : k < L.length
    · have hkz : (k : Int) < (L.length : Int) := by omega
      have x1 : wr.cell? ⟨w.heap.size, 0, none⟩ = some (.slice A L.length c) := (h1.cell 0).trans rfl
      have hst := doF_take f hlt
      have htl := doF_tlen f hk
      have hmy := fun y hy => hmay k y hlt hy
      obtain ⟨b, off, rfl, hb, hrx⟩ := (hrow _ HE.out).some (by omega)
      have e1 : wr.rangeAt b (off + k * 45) (stC (sT L k)).toList := by rw [sT_eq]; exact hrx k hlt
      clear hk hrx hrow hmay
      generalize sT L k = s at *
      have hE := (Ext.refl wr).alloc (.cells (stC s) 46)
      have h4 := Blk.new wr 46 (stC s)
      replace h1 := h1.ext hE
      replace h2 := h2.ext hE
      replace h3 := h3.ext hE
      have hob : u5.ownBlock ≠ some wr.heap.size := own_below hown (.inr (Nat.le_refl _))
      replace hown := own_ext hown hE
      replace HE := Lib.hid (HE.out.trans hE)
      clear hE
      go_wp2_with (first | (refine wpList_load_rng (w := wr) (by rfl) 46 _ rfl rfl e1 Tryd.underlying46 rfl (st_info _) ?_) | (refine wpList_store_new rfl 46 _ _ rfl (stC _) _ _ rfl rfl (st_info _) (by simp [stC_size]) (stC_one _) ?_))
      clear h4 hb
      have h4 := Blk.new wr 46 (stC s)
      generalize wr.alloc (.cells (stC s) 46) = wr1 at *
      generalize wr.heap.size = g4 at *
      clear x1 e1 htl
      go_loopw [8] (fun i wx => ∃ y : Nat, y ≤ 4 ∧ i = .int .i64 y ∧ Blk wx g4 46 (stC (zapQ (namF f) y s)) ∧ wx.ownsRow (w.heap.size + 3) KS.e KS.sz u5 (doF f (L.take k)).length (KS.flat (doF f (L.take k))) ∧ Blk wx w.heap.size 37 #[.slice (some ⟨b, off, none⟩) L.length c] ∧ Blk wx (w.heap.size + 1) 24 (fcC f) ∧ Blk wx (w.heap.size + 2) 37 #[.slice none 0 0] ∧ Ext w wx) (fun i _ => (4 - intOf i).toNat)
      case atStart => exact ⟨0, by omega, rfl, (by rw [zapQ_0]; exact h4), hown, h1, h2, h3, HE.out⟩
      case round =>
        clear hown h1 h2 h3 h4 HE
        obtain ⟨y, hy, rfl, h4, hown, h1, h2, h3, hE⟩ := hrel
        have HE := Lib.hid hE
        clear hE
        by_cases hyl : y < 4
        · have hyz : (y : Int) < 4 := by omega
          have hme := hmy y hyl
          have e2 := h4.part (y * 11) (stC_at _ hyl)
          rw [zapQ_own _ _ hyl] at e2
          have hqs := zapQ_s (namF f) y s
          have HS := stC_put (zapQ (namF f) y s) hyl e0
          have HB : y * 11 + (enC e0).size ≤ (stC (zapQ (namF f) y s)).size := by rw [stC_size, enC_size]; omega
          have crn := fun w => rnames15_c f hf _ hme w
          clear hme hmy hy hst
          generalize s.ws.at y = e at *
          obtain ⟨z1, hz1⟩ : ∃ z, zapQ (namF f) (y + 1) s = z := ⟨_, rfl⟩
          rw [hz1] at hqs
          have HZ := Lib.hid hz1
          clear hz1
          generalize zapQ (namF f) y s = z at *
          generalize namF f e = B at *
          go_wp2_with fail
          (try replace hb := Blk.drew hb); (try replace hz := Blk.drew hz); (try replace h1 := Blk.drew h1); (try replace h2 := Blk.drew h2); (try replace h3 := Blk.drew h3); (try replace h4 := Blk.drew h4); (try replace k1 := Blk.drew k1); (try replace k2 := Blk.drew k2); (try replace k3 := Blk.drew k3); (try replace k4 := Blk.drew k4); replace HE := Lib.hid HE.out.drew
          replace hown := own_ext hown (Ext.refl _).drew
          refine wp_region_seq [(0, false), (1, false), (2, false), (3, false), (4, false), (5, true)] Ext (by kernel_rfl) (by kernel_rfl) Ext.refl (fun _ _ _ => Ext.trans) ?_; simp only [List.map, nth_z, nth_s]
          (try simp only [Act.put, List.setIfInBounds_toArray, List.set_cons_zero, List.set_cons_succ])
          refine seq_load rfl rfl (fun x hx => Blk.ext (h2) hx) rfl Tryd.underlying24 (by kernel_rfl) (by rfl) ?_; intro K hK; simp only [Act.put, List.setIfInBounds_toArray, List.set_cons_zero, List.set_cons_succ]; refine hK _ ?_; clear hK K
          (repeat (first | (refine seq_skip (by rfl) ?_; intro K hK; simp only [Act.put, List.setIfInBounds_toArray, List.set_cons_zero, List.set_cons_succ]; refine hK _ ?_; clear hK K) | (refine seq_skipc (by rfl) ?_; intro K hK; simp only [Act.put, List.setIfInBounds_toArray, List.set_cons_zero, List.set_cons_succ]; refine hK _ ?_; clear hK K) | (refine seq_read (by rfl) (by rfl) ?_; intro K hK; go_big_quiet_op; first | go_big_quiet_on | (refine ⟨_, fun _ _ => rfl, ?_⟩; go_big_quiet_on))))
          refine seq_load_rng rfl rfl ((fun x hx => rgx_ext hx e2)) rfl Tryd.underlying28 (en_info _) (by rfl) ?_; intro K hK; simp only [Act.put, List.setIfInBounds_toArray, List.set_cons_zero, List.set_cons_succ]; refine hK _ ?_; clear hK K
          refine seq_call (crn _) rfl Tryd.func15 (by kernel_rfl) (by kernel_rfl) (by rfl) (by rfl) ?_; intro K hK; rintro e w' ⟨rfl, hE⟩; refine ⟨_, rfl, hE, ?_⟩; simp only [Act.put, List.setIfInBounds_toArray, List.set_cons_zero, List.set_cons_succ]; refine hK _ _ ?_; clear hK K
          (try replace hb := hb.ext hE); (try replace hz := hz.ext hE); (try replace h1 := h1.ext hE); (try replace h2 := h2.ext hE); (try replace h3 := h3.ext hE); (try replace h4 := h4.ext hE); (try replace k1 := k1.ext hE); (try replace k2 := k2.ext hE); (try replace k3 := k3.ext hE); (try replace k4 := k4.ext hE); (try replace HE := Lib.hid (HE.out.trans hE)); (try replace r0 := r0.ext hE); (try replace r1 := r1.ext hE); (try replace r2 := r2.ext hE); (try replace r3 := r3.ext hE); (try replace r4 := r4.ext hE); (try replace r5 := r5.ext hE); (try replace r6 := r6.ext hE)
          replace hown := own_ext hown hE
          clear hE crn e2
          refine seq_done ?_
          cases B
          · rw [if_neg (by decide)] at hqs
            subst hqs
            clear HS HB
            go_wp2
            go_roundw
            case rel => exact ⟨y + 1, by omega, by go_num, (by rw [HZ.out]; exact h4), hown, h1, h2, h3, HE.out⟩
            case measure => simp [intOf]; omega
          · rw [if_pos rfl] at hqs
            rw [← hqs] at HS
            have k4 := h4.row (stC z1)
            have k1 := h1.apart (show w.heap.size ≠ g4 by omega) (stC z1)
            have k2 := h2.apart (show w.heap.size + 1 ≠ g4 by omega) (stC z1)
            have k3 := h3.apart (show w.heap.size + 2 ≠ g4 by omega) (stC z1)
            have kown := own_apart15 hown hob (stC z1)
            have KE' := Lib.hid (HE.out.row (show w.heap.size ≤ g4 by omega) (stC z1))
            have HI := Lib.hid hqs
            clear hqs h1 h2 h3 hown HE
            go_wp2_with (first | (refine wpList_build_as (by rfl) rfl (e0_build) ?_) | (refine wpList_store_part rfl 28 _ _ rfl rfl rfl h4 (HB) (HS) (en_info _) (enC_one _) ?_))
            go_roundw
            case rel => exact ⟨y + 1, by omega, by go_num, (by rw [HZ.out]; exact k4), kown, k1, k2, k3, KE'.out⟩
            case measure => simp [intOf]; omega
        · obtain rfl : y = 4 := by omega
          have hsz1 : w.heap.size + 3 ≤ wr.heap.size := by have := h4.lt; omega
          have hap := fun ty => below_append ks_ok wr (w.heap.size + 3) u5 (doF f (L.take k)) hown (zapQ (namF f) 4 s) (by rw [doF_tlen f (by omega)]; show (k + 1) * 232 ≤ _; omega) (by rw [doF_tlen f (by omega)]; unfold maxLen; omega) hsz1 ty
          rw [← hst] at hap
          obtain ⟨z, hz⟩ : ∃ z, zapQ (namF f) 4 s = z := ⟨_, rfl⟩
          rw [hz] at hap h4 
          clear hz
          have he45 := stC_size z
          have hfo := st_fold z
          clear hown hob hmy hst
          go_wp2_with (first | (refine wpList_load_blk (by rfl) 46 _ rfl rfl h4 Tryd.underlying46 rfl (by kernel_rfl) ?_) | (at_builtin; refine wpList_append_run' _ rfl _ _ _ rfl _ _ rfl rfl _ (hap _) ?_; rintro v3 w3 ⟨hown3, hB⟩))
          have k1 := Blk.lower h1 hB (by omega)
          have k2 := Blk.lower h2 hB (by omega)
          have k3 := Blk.lower h3 hB (by omega)
          have hsz3 := Nat.le_trans hsz1 hB.size
          have HE3 : Hid (Ext w w3) := Lib.hid (Below.trans HE.out (Below.mono hB (by omega)))
          go_roundw
          case rel => exact ⟨k + 1, by omega, by go_num, hown3, hsz3, k1, k2, k3, HE3.out⟩
          case measure => simp [intOf]; omega
    · obtain rfl : k = L.length := by omega
      rw [doF_all] at hown
      obtain ⟨A2, c2, rfl, hr2, hn2⟩ := own_rowv ks_ok hown
      have x1 : wr.cell? ⟨w.heap.size, 0, none⟩ = some (.slice A L.length c) := (h1.cell 0).trans rfl
      clear hown hrow hmay
      go_wp2_with (first | (refine wpList_store_row rfl 37 _ _ rfl _ _ rfl rfl _ _ h3 (by kernel_rfl) (by rfl) (by simp [Value.oneCell']) ?_))
      (try simp only [Exit.inBlock, Exit.then]); refine bodyPost_ret (results_cell_row rfl _ _ _ _ _ _ _ rfl ((h3.row _)) Tryd.underlying37 rfl (by kernel_rfl)) rfl ?_
      exact ⟨A2, c2, rfl, hr2.row (fun a h => by have := hn2 a h; omega) _, fun a h => by have := hn2 a h; omega, HE.out.row (by omega) _⟩
theorem allF_take (M : List Fc) {k : Nat} (hk : k < M.length) (L : List St) : doF (M.getD k fc0) (allF (M.take k) L) = allF (M.take (k + 1)) L := by
  have h3 : M.take (k + 1) = M.take k ++ [M.getD k fc0] := by rw [List.take_add_one]; simp [List.getD, hk]
  rw [h3, allF_snoc]
theorem allF_0 (M : List Fc) (L : List St) : allF (M.take 0) L = L := by rw [List.take_zero, allF_nil]
/-- a buffer behind a call -/
def TlbA (L : List St) (w : World) (r : Ending) (w' : World) : Prop := ∃ A c, r = .returned (.agg #[.slice A L.length c]) ∧ RowV KS w' A L c ∧ Ext w w'
set_option maxRecDepth 100000 in
set_option maxHeartbeats 4000000 in
theorem rall15_c (A : Option Addr) (L : List St) (c : Nat) (hrt : rightT L = true) (B : Option Addr) (M : List Fc) (d : Nat) (hok : ∀ i, i < M.length → (M.getD i fc0).ok) (w : World) (hr : RowV KS w A L c) (hm : RowV KF w B M d) :
    Calls Tryd.prog 19 #[.agg #[.slice A L.length c], .slice B M.length d] w (TlbA (allF M L) w) := by
  have h1 : Blk ((w.alloc (.cells #[.slice A L.length c] 37)).alloc (.cells #[.slice none 0 0] 37)) w.heap.size 37 #[.slice A L.length c] := (Blk.new w _ _).alloc _
  have h3 : Blk ((w.alloc (.cells #[.slice A L.length c] 37)).alloc (.cells #[.slice none 0 0] 37)) (w.heap.size + 1) 37 #[.slice none 0 0] := blk_at (by simp)
  have HE := Lib.hid (((Ext.refl w).alloc (.cells #[.slice A L.length c] 37)).alloc (.cells #[.slice none 0 0] 37))
  have r2 := hr.ext HE.out
  have hML := hm.2.2
  go_enter Tryd.func19, Tryd.ntmps19
  go_wp2
  go_loopw [5] (fun i wr => ∃ (k : Nat) (A' : Option Addr) (c' : Nat), k ≤ M.length ∧ i = .int .i64 k ∧ Blk wr w.heap.size 37 #[.slice A' L.length c'] ∧ RowV KS wr A' (allF (M.take k) L) c' ∧ Blk wr (w.heap.size + 1) 37 #[.slice none 0 0] ∧ Ext w wr) (fun i _ => (M.length - intOf i).toNat)
  case atStart => exact ⟨0, A, c, by omega, rfl, h1, (by rw [allF_0]; exact r2), h3, HE.out⟩
  case round =>
    clear h1 h3 HE r2 hr
    obtain ⟨k, A', c', hk, rfl, h1, r2, h3, hE⟩ := hrel
    have HE := Lib.hid hE
    clear hE
    by_cases hlt : k < M.length
    · have hkz : (k : Int) < (M.length : Int) := by omega
      obtain ⟨b2, off2, rfl, hb2, hrx⟩ := hm.some (by omega)
      have e3 : wr.rangeAt b2 (off2 + k * 4) (fcC (M.getD k fc0)).toList := rgx_ext HE.out (hrx k hlt)
      have hbn : b2 ≠ w.heap.size := by omega
      have crd := fun A' c' w h => rdo15_c A' (allF (M.take k) L) c' (rt_allF hrt _) (M.getD k fc0) (hok k hlt) w h
      unfold MadeT at crd
      rw [allF_len, allF_take M hlt L, allF_len] at crd
      clear hrx hb2 hk hok hm
      generalize M.getD k fc0 = f at *
      go_wp2_with fail
      (try replace hm := Blk.drew hm); (try replace h1 := Blk.drew h1); (try replace h3 := Blk.drew h3); (try replace k1 := Blk.drew k1); (try replace k3 := Blk.drew k3); replace HE := Lib.hid HE.out.drew
      replace r2 := r2.ext (Ext.refl _).drew
      replace e3 := rgx_ext (Ext.refl _).drew e3
      refine wp_region_seq [(1, false), (2, false), (3, false), (4, false), (0, true), (5, true), (6, true)] (Gap (w.heap.size) (w.heap.size + 1)) (by kernel_rfl) (by kernel_rfl) (Gap.refl _ _) (fun _ _ _ => Gap.trans) ?_; simp only [List.map, nth_z, nth_s]
      (try simp only [Act.put, List.setIfInBounds_toArray, List.set_cons_zero, List.set_cons_succ])
      (repeat (first | (refine seq_skip (by rfl) ?_; intro K hK; simp only [Act.put, List.setIfInBounds_toArray, List.set_cons_zero, List.set_cons_succ]; refine hK _ ?_; clear hK K) | (refine seq_skipc (by rfl) ?_; intro K hK; simp only [Act.put, List.setIfInBounds_toArray, List.set_cons_zero, List.set_cons_succ]; refine hK _ ?_; clear hK K) | (refine seq_read (by rfl) (by rfl) ?_; intro K hK; go_big_quiet_op; first | go_big_quiet_on | (refine ⟨_, fun _ _ => rfl, ?_⟩; go_big_quiet_on))))
      refine seq_load_rng rfl rfl ((fun x hx => rgx_gap hx e3 (by omega))) rfl Tryd.underlying24 (fc_info _) (by rfl) ?_; intro K hK; simp only [Act.put, List.setIfInBounds_toArray, List.set_cons_zero, List.set_cons_succ]; refine hK _ ?_; clear hK K
      (repeat (first | (refine seq_skip (by rfl) ?_; intro K hK; simp only [Act.put, List.setIfInBounds_toArray, List.set_cons_zero, List.set_cons_succ]; refine hK _ ?_; clear hK K) | (refine seq_skipc (by rfl) ?_; intro K hK; simp only [Act.put, List.setIfInBounds_toArray, List.set_cons_zero, List.set_cons_succ]; refine hK _ ?_; clear hK K) | (refine seq_read (by rfl) (by rfl) ?_; intro K hK; go_big_quiet_op; first | go_big_quiet_on | (refine ⟨_, fun _ _ => rfl, ?_⟩; go_big_quiet_on))))
      refine seq_load_now rfl rfl h1 rfl Tryd.underlying37 (by kernel_rfl) (by rfl) (Gap.refl _ _ _) ?_; intro K hK; simp only [Act.put, List.setIfInBounds_toArray, List.set_cons_zero, List.set_cons_succ]; refine hK _ _ ?_; clear hK K
      refine seq_call (crd _ _ _ r2) rfl Tryd.func21 (by kernel_rfl) (by kernel_rfl) (by rfl) (by rfl) ?_; intro K hK; rintro e w' ⟨A3, c3, rfl, hr3, -, hE⟩; refine ⟨_, rfl, (Gap.ext hE), ?_⟩; simp only [Act.put, List.setIfInBounds_toArray, List.set_cons_zero, List.set_cons_succ]; refine hK _ _ ?_; clear hK K
      (try replace hm := hm.ext hE); (try replace h1 := h1.ext hE); (try replace h3 := h3.ext hE); (try replace k1 := k1.ext hE); (try replace k3 := k3.ext hE); (try replace HE := Lib.hid (HE.out.trans hE)); (try replace r0 := r0.ext hE); (try replace r1 := r1.ext hE); (try replace r2 := r2.ext hE); (try replace r3 := r3.ext hE); (try replace r4 := r4.ext hE); (try replace r5 := r5.ext hE); (try replace r6 := r6.ext hE)
      clear hE crd
      refine seq_store_row rfl rfl rfl (h1) (by kernel_rfl) (by rfl) (by simp [Value.oneCell']) (by rfl) (Gap.row _ (by omega) (by omega) _) ?_; intro K hK; simp only [Act.put, List.setIfInBounds_toArray, List.set_cons_zero, List.set_cons_succ]; refine hK _ _ ?_; clear hK K
      refine seq_done ?_
      have hr4 := rowv_tlb hr3 h1 #[.slice A3 L.length c3]
      have k1 := h1.row #[.slice A3 L.length c3]
      have k3 := h3.apart (show w.heap.size + 1 ≠ w.heap.size by omega) #[.slice A3 L.length c3]
      have HE4 := Lib.hid (HE.out.row (Nat.le_refl _) #[.slice A3 L.length c3])
      clear h1 h3 HE r2 hr3 e3
      go_wp2
      go_roundw
      case rel => exact ⟨k + 1, A3, c3, by omega, by go_num, k1, hr4, k3, HE4.out⟩
      case measure => simp [intOf]; omega
    · obtain rfl : k = M.length := by omega
      rw [List.take_length] at r2
      have r3 := rowv_tlb r2 h3 #[.slice A' L.length c']
      have hl := allF_len M L
      clear hm hok hk hlt
      go_wp2_with (first | (refine wpList_load_blk (by rfl) 37 _ rfl rfl (by first | exact h1 | exact h3 | exact k1 | exact k3) Tryd.underlying37 rfl (by kernel_rfl) ?_) | (refine wpList_store_row rfl 37 _ _ rfl _ _ rfl rfl _ _ h3 (by kernel_rfl) (by rfl) (by simp [Value.oneCell']) ?_))
      (try simp only [Exit.inBlock, Exit.then]); refine bodyPost_ret (results_cell_row rfl _ _ _ _ _ _ _ rfl ((h3.row _)) Tryd.underlying37 rfl (by kernel_rfl)) rfl ?_
      exact ⟨A', c', by rw [hl], r3, HE.out.row (by omega) _⟩
end Go.Proofs.YtlimipjfdecbfaaDoor
