/- TlbUnlike, over the package's contracts (TlbC). -/
import Derived.Test.YtdbflmceomnmlaaDoorLaw14b
namespace Go.Proofs.YtdbflmceomnmlaaDoor
open Go.ChangeShapes Go.WideShapes Go.ChangeAt Go.RowKit
set_option linter.unusedVariables false
set_option linter.unusedSimpArgs false

theorem sT_rep (n i : Nat) : sT (List.replicate n s0) i = s0 := by
  unfold sT
  rw [List.getD_eq_getElem?_getD, List.getElem?_replicate]
  split <;> rfl
theorem s0_at {w : Nat} (hw : w < 4) : s0.ws.at w = e0 := by rcases k_four hw with rfl | rfl | rfl | rfl <;> rfl
theorem rt_rep {n : Nat} (h : n ≤ 16) : rightT (List.replicate n s0) = true := rt_of (by simpa using h) fun i hi => by
  rw [sT_rep]
  exact rightAt_of right_s0 fun w hw => by rw [s0_at hw]; exact in_e0 _ _
theorem unl_s0 : unlS s0.ws = true := by kernel_rfl
theorem unl_rep (n : Nat) : unlT (List.replicate n s0) := fun i hi => by rw [sT_rep]; exact unl_s0
theorem rngV {w : World} {b o : Nat} {e : En} (h : w.rangeAt b o (enC e).toList) : w.cell? ⟨b, o, none⟩ = some (.bool e.v) := h 0 _ (by rw [Array.getElem?_toList, enC_v])
/-- a buffer's sets lie in no block of a buffer -/
theorem rowv_tlb {w : World} {A : Option Addr} {L : List St} {c g : Nat} {x : Value} (h : RowV KS w A L c) (hb : Blk w g 24 #[x]) (ds : Array Value) : RowV KS (w.setRow g ds) A L c := by
  by_cases h0 : L.length = 0
  · exact ⟨fun hp => absurd hp (by omega), h.2⟩
  obtain ⟨b, off, rfl, hlt, hr⟩ := h.some (by omega)
  refine h.row (fun a ha => ?_) ds
  cases ha
  intro hg
  obtain rfl : b = g := hg
  have h1 := hr 0 (by omega) 1 _ (by rw [Array.getElem?_toList]; exact Array.getElem?_eq_getElem (by show 1 < (stC _).size; rw [stC_size]; omega))
  have h2 := hb.cell (off + 0 * KS.sz + 1)
  rw [h2] at h1
  rw [Array.getElem?_eq_none (by simp)] at h1
  cases h1
theorem ok_rep (n : Nat) : ∀ i, i < (List.replicate n s0).length → (sT (List.replicate n s0) i).ok := fun i hi => by
  rw [sT_rep]
  exact ok_of14 (by decide) fun k hk => by rw [s0_at hk]; exact e0_ok14
theorem ok_put {L : List St} (hrt : rightT L = true) {e : En} (hm : mayE e = true) (hok : ∀ i, i < L.length → (sT L i).ok) (he : e.ok) (v : Int) : ∀ i, i < (putT e v L).length → (sT (putT e v L) i).ok := fun i hi => by
  rw [putT_len] at hi
  have hp : 0 < L.length := by omega
  have hx := ix_lt hp (e.vp : Int) e.l
  rw [putT_pos hp, sT_set hx]
  split
  · exact putS_ok14 (hok _ hx) (right_t (rt_s hrt hx)) he v
  · exact hok i hi
theorem pw_at {E : List En} (h : E.Pairwise fun x y => sameE y x = false) {i j : Nat} (hj : j < i) (hi : i < E.length) : sameE (E.getD i e0) (E.getD j e0) = false := by
  rw [List.pairwise_iff_getElem] at h
  have := h j i (by omega) hi hj
  simpa [List.getD, hi, show j < E.length by omega] using this
theorem tlb_en {w : World} {g o : Nat} {x : Value} {e : En} (hb : Blk w g 24 #[x]) (h : w.rangeAt g o (enC e).toList) : False := by
  have h1 := h 1 _ (by rw [Array.getElem?_toList]; exact Array.getElem?_eq_getElem (by rw [enC_size]; omega))
  have h2 := hb.cell (o + 1)
  rw [h2] at h1
  rw [Array.getElem?_eq_none (by simp)] at h1
  cases h1
/-- a struct loaded where nothing else can come up -/
theorem seq_load_now {P : Program} {ops : Array Oper} {R : World → World → Prop} {Q : Exit → Act → World → Prop} {N : Act → World → Prop} {o : Oper} {r : List (Oper × Bool)} {a : Act} {w : World} {ty t : TypeId} {x : Operand} {g : Nat} {cs : Array Value} {d : TypeDesc}
    (hop : o.op = .load ty x) (hx : a.eval x = .pointer (some ⟨g, 0, none⟩)) (hb : Blk w g t cs)
    (hd : (match d with | .struct _ | .array _ _ => true | _ => false) = true) (hu : P.underlying ty = some d) (hi : (P.info? ty).map (·.size) = some cs.size) (hw : Region.wanted o (yielded ops a.tmps) = true) (hR : R w w)
    (k : ∀ K : Act → World → Prop, (∀ a' w', wpSeq P ops R Q N r a' w' → K a' w') → K (a.put o.dst (.agg cs)) w) : wpSeq P ops R Q N ((o, true) :: r) a w :=
  seq_run (.agg cs) w hw (by
    unfold execOp
    simp only [hop, hx, Instr.loadAt, Instr.sureAddr, Sem.run_bind, Sem.run_pure, Result.andThen_ok, run_loadVar_row w g t ty cs (0, 0) d hb hu (by cases d <;> first | rfl | exact hd) hi]) hR k
set_option maxRecDepth 100000 in
set_option maxHeartbeats 8000000 in
theorem TlbUnlike_w (C : TlbC) (n : Nat) (hn : n < 256) (A : Option Addr) (L : List En) (c : Nat) (hok : ∀ i, i < L.length → (L.getD i e0).ok) (B : Option Addr) (V : List Int) (d : Nat) (hvk : ∀ i, i < V.length → -128 ≤ V.getD i 0 ∧ V.getD i 0 ≤ 127) (w : World) (hr : RowV KE w A L c) (hq : RowV KI w B V d) (hT : Lays w) :
    Calls Tryd.prog 6 #[.int .u8 (n : Int), .slice A L.length c, .slice B V.length d] w fun r w' => r = .returned (.bool true) ∧ Ext w w' := by
  have HE := Lib.hid (Ext.refl w)
  have hrow : ∀ W : World, Ext w W → RowV KE W A L c := fun W h => hr.ext h
  have hrq : ∀ W : World, Ext w W → RowV KI W B V d := fun W h => hq.ext h
  have hLm : L.length ≤ 9223372036854775807 := Nat.le_trans hr.2.2.1 hr.2.2.2
  have hVm : V.length ≤ 9223372036854775807 := Nat.le_trans hq.2.2.1 hq.2.2.2
  clear hr hq
  by_cases h100 : 100 < L.length
  · have d0 : decide (100 < (L.length : Int)) = true := by simp; omega
    clear h100
    go_enter Tryd.func6, Tryd.ntmps6
    go_wp2_with (fail); refine (C.awake _ (hT.ext HE.out)).mono ?_; rintro e w' ⟨rfl, hE⟩; (try replace hb := hb.ext hE); (try replace hm := hm.ext hE); (try replace h7 := h7.ext hE); (try replace HE := Lib.hid (HE.out.trans hE))
    clear hE
    go_wp2_with (fail); refine (C.awake _ (hT.ext HE.out)).mono ?_; rintro e w' ⟨rfl, hE⟩; (try replace hb := hb.ext hE); (try replace hm := hm.ext hE); (try replace h7 := h7.ext hE); (try replace HE := Lib.hid (HE.out.trans hE))
    clear hE
    go_wp2
    go_ret
    exact ⟨rfl, HE.out⟩
  have d0 : decide (100 < (L.length : Int)) = false := by simp; omega
  have ht : (n : Int).tmod 17 = ((n % 17 : Nat) : Int) := by rw [Int.tmod_eq_emod_of_nonneg (by omega)]; omega
  have hq16 : n % 17 ≤ 16 := by omega
  generalize hqq : n % 17 = q at *
  clear hqq
  have cnw := fun w k => C.new q w hq16 k
  have HR0 := rt_rep hq16
  have HU0 := unl_rep q
  have HO0 := ok_rep q
  have HL0 : (List.replicate q s0).length = q := by simp
  generalize hM0 : List.replicate q s0 = M0 at *
  clear hM0
  go_enter Tryd.func6, Tryd.ntmps6
  go_wp2_with (fail); refine (C.awake _ (hT.ext HE.out)).mono ?_; rintro e w' ⟨rfl, hE⟩; (try replace hb := hb.ext hE); (try replace hm := hm.ext hE); (try replace h7 := h7.ext hE); (try replace HE := Lib.hid (HE.out.trans hE))
  clear hE
  go_upto_region 3 with fail
  go_wp2_with (fail); refine (cnw _ (hT.ext HE.out)).mono ?_; rintro e w' ⟨A0, c0, rfl, hr0, hE⟩; (try replace h7 := h7.ext hE); (try replace HE := Lib.hid (HE.out.trans hE)); (try replace HE1 := Lib.hid (HE1.out.trans hE))
  clear hE cnw
  have h7 := Blk.new w' 24 #[.slice A0 q c0]
  have hE := (Ext.refl w').alloc (.cells #[.slice A0 q c0] 24)
  have l7 : w.heap.size ≤ w'.heap.size := HE.out.size
  replace hr0 := hr0.ext hE
  replace HE := Lib.hid (HE.out.trans hE)
  clear hE
  go_upto_region 4 with fail
  generalize w'.heap.size = g7 at *
  generalize w'.alloc (.cells #[.slice A0 q c0] 24) = W1 at *
  go_wp2
  go_loopw [9] (fun i wr => ∃ (k : Nat) (M : List St) (A2 : Option Addr) (c2 : Nat), k ≤ L.length ∧ i = .int .i64 k ∧ Hid (M.length = q) ∧ Hid (rightT M = true) ∧ Hid (unlT M) ∧ Hid (∀ i, i < M.length → (sT M i).ok) ∧ Blk wr g7 24 #[.slice A2 q c2] ∧ RowV KS wr A2 M c2 ∧ Ext w wr) (fun i _ => (L.length - intOf i).toNat)
  case atStart => exact ⟨0, M0, A0, c0, by omega, rfl, Lib.hid HL0, Lib.hid HR0, Lib.hid HU0, Lib.hid HO0, h7, hr0, HE.out⟩
  case round =>
    clear h7 hr0 HE HL0 HR0 HU0 HO0
    obtain ⟨k, M, A2, c2, hk, rfl, HL, HR, HU, HO, h7, hr2, hE⟩ := hrel
    have HE := Lib.hid hE
    clear hE
    by_cases hlt : k < L.length
    · have hkz : (k : Int) < (L.length : Int) := by omega
      obtain ⟨b, off, rfl, hb, hrx⟩ := (hrow _ HE.out).some (by omega)
      have e2 : wr.rangeAt b (off + k * 11) (enC (L.getD k e0)).toList := hrx k hlt
      have he2 : ∀ W : World, Ext wr W → W.rangeAt b (off + k * 11) (enC (L.getD k e0)).toList := fun W h => rgx_ext h e2
      have rme := fun w => rmay12_c (L.getD k e0) w
      have he := hok k hlt
      clear hrx hrow hk hok
      generalize L.getD k e0 = e at *
      have HB := Lib.hid (Ext.refl wr)
      cases hm : mayE e
      · rw [hm] at rme
        go_wp2_with ((refine wpList_load_rng (w := wr) (by rfl) 29 _ rfl rfl e2 Tryd.underlying29 rfl (en_info _) ?_)); refine (rme _).mono ?_; rintro e w' ⟨rfl, hE⟩; (try replace hb := hb.ext hE); (try replace hm := hm.ext hE); (try replace h7 := h7.ext hE); (try replace HE := Lib.hid (HE.out.trans hE))
        (try replace hr2 := hr2.ext hE)
        (try replace HB := Lib.hid (HB.out.trans hE))
        clear hE rme e2
        go_wp2
        go_roundw
        case rel => exact ⟨k + 1, M, A2, c2, by omega, by go_num, HL, HR, HU, HO, h7, hr2, HE.out⟩
        case measure => simp [intOf]; omega
      rw [hm] at rme
      cases hv : e.v
      · have x46 : ∀ W : World, Ext wr W → W.cell? ⟨b, off + k * 11, none⟩ = some (.bool false) := fun W h => by rw [← hv]; exact rngV (he2 W h)
        go_wp2_with ((refine wpList_load_rng (w := wr) (by rfl) 29 _ rfl rfl e2 Tryd.underlying29 rfl (en_info _) ?_)); refine (rme _).mono ?_; rintro e w' ⟨rfl, hE⟩; (try replace hb := hb.ext hE); (try replace hm := hm.ext hE); (try replace h7 := h7.ext hE); (try replace HE := Lib.hid (HE.out.trans hE))
        (try replace hr2 := hr2.ext hE)
        (try replace HB := Lib.hid (HB.out.trans hE))
        clear hE rme e2
        have x47 := x46 _ HB.out
        go_wp2
        go_roundw
        case rel => exact ⟨k + 1, M, A2, c2, by omega, by go_num, HL, HR, HU, HO, h7, hr2, HE.out⟩
        case measure => simp [intOf]; omega
      have x46 : ∀ W : World, Ext wr W → W.cell? ⟨b, off + k * 11, none⟩ = some (.bool true) := fun W h => by rw [← hv]; exact rngV (he2 W h)
      have cpt := fun v w h k => C.put A2 M c2 e v w HR.out hm hv h k
      rw [HL.out] at cpt
      have HM := Lib.hid hm
      clear hm hv
      go_wp2_with ((refine wpList_load_rng (w := wr) (by rfl) 29 _ rfl rfl e2 Tryd.underlying29 rfl (en_info _) ?_)); refine (rme _).mono ?_; rintro e w' ⟨rfl, hE⟩; (try replace hb := hb.ext hE); (try replace hm := hm.ext hE); (try replace h7 := h7.ext hE); (try replace HE := Lib.hid (HE.out.trans hE))
      (try replace hr2 := hr2.ext hE)
      (try replace HB := Lib.hid (HB.out.trans hE))
      clear hE rme e2
      have x47 := x46 _ HB.out
      by_cases hkv : k < V.length
      · have hkz2 : (k : Int) < (V.length : Int) := by omega
        obtain ⟨b3, off3, rfl, hb3, hrx3⟩ := (hrq _ HE.out).some (by omega)
        have x56 : w'.cell? ⟨b3, off3 + k, none⟩ = some (.int .i8 (V.getD k 0)) := by
          have := hrx3 k hkv 0 (.int .i8 (V.getD k 0)) (by simp [KI])
          simpa [KI] using this
        obtain ⟨z1, z2⟩ := hvk k hkv
        clear hrx3 hrq hvk
        generalize V.getD k 0 = z at *
        go_upto_region 9 with fail
        go_upto_region 10 with fail
        go_wp2_with fail
        replace h7 := Blk.drew h7
        replace hr2 := hr2.ext (Ext.refl _).drew
        replace HE := Lib.hid HE.out.drew
        replace HB := Lib.hid HB.out.drew
        have l8 := h7.lt
        have e3 := he2 _ HB.out
        have hb7 : b ≠ g7 := fun h => tlb_en h7 (h ▸ e3)
        refine wp_region_seq [(1, false), (2, false), (3, false), (4, false), (5, false), (0, true), (6, true), (7, true)] (Gap (g7) (g7 + 1)) (by kernel_rfl) (by kernel_rfl) (Gap.refl _ _) (fun _ _ _ => Gap.trans) ?_; simp only [List.map, nth_z, nth_s]
        (try simp only [Act.put, List.setIfInBounds_toArray, List.set_cons_zero, List.set_cons_succ])
        (repeat (first | (refine seq_skip (by rfl) ?_; intro K hK; simp only [Act.put, List.setIfInBounds_toArray, List.set_cons_zero, List.set_cons_succ]; refine hK _ ?_; clear hK K) | (refine seq_skipc (by rfl) ?_; intro K hK; simp only [Act.put, List.setIfInBounds_toArray, List.set_cons_zero, List.set_cons_succ]; refine hK _ ?_; clear hK K) | (refine seq_read (by rfl) (by rfl) ?_; intro K hK; go_big_quiet_op; first | go_big_quiet_on | (refine ⟨_, fun _ _ => rfl, ?_⟩; go_big_quiet_on))))
        refine seq_load_rng rfl rfl ((fun x hx => rgx_gap hx e3 (by omega))) rfl Tryd.underlying29 (en_info _) (by rfl) ?_; intro K hK; simp only [Act.put, List.setIfInBounds_toArray, List.set_cons_zero, List.set_cons_succ]; refine hK _ ?_; clear hK K
        (repeat (first | (refine seq_skip (by rfl) ?_; intro K hK; simp only [Act.put, List.setIfInBounds_toArray, List.set_cons_zero, List.set_cons_succ]; refine hK _ ?_; clear hK K) | (refine seq_skipc (by rfl) ?_; intro K hK; simp only [Act.put, List.setIfInBounds_toArray, List.set_cons_zero, List.set_cons_succ]; refine hK _ ?_; clear hK K) | (refine seq_read (by rfl) (by rfl) ?_; intro K hK; go_big_quiet_op; first | go_big_quiet_on | (refine ⟨_, fun _ _ => rfl, ?_⟩; go_big_quiet_on))))
        refine seq_load_now rfl rfl h7 rfl Tryd.underlying24 (by kernel_rfl) (by rfl) (Gap.refl _ _ _) ?_; intro K hK; simp only [Act.put, List.setIfInBounds_toArray, List.set_cons_zero, List.set_cons_succ]; refine hK _ _ ?_; clear hK K
        refine seq_call (cpt (z) _ hr2 (hT.ext HE.out)) rfl Tryd.func24 (by kernel_rfl) (by kernel_rfl) (by rfl) (by rfl) ?_; intro K hK; rintro e w' ⟨A3, c3, rfl, hr3, hE⟩; refine ⟨_, rfl, (Gap.ext hE), ?_⟩; simp only [Act.put, List.setIfInBounds_toArray, List.set_cons_zero, List.set_cons_succ]; refine hK _ _ ?_; clear hK K
        replace h7 := h7.ext hE
        replace HE := Lib.hid (HE.out.trans hE)
        clear hE
        refine seq_store_row rfl rfl rfl (h7) (by kernel_rfl) (by rfl) (by simp [Value.oneCell']) (by rfl) (Gap.row _ (by omega) (by omega) _) ?_; intro K hK; simp only [Act.put, List.setIfInBounds_toArray, List.set_cons_zero, List.set_cons_succ]; refine hK _ _ ?_; clear hK K
        refine seq_done ?_
        replace hr3 := rowv_tlb hr3 h7 #[.slice A3 (putT e (z) M).length c3]
        replace h7 := h7.row #[.slice A3 (putT e (z) M).length c3]
        replace HE := Lib.hid (HE.out.row l7 #[.slice A3 (putT e (z) M).length c3])
        have hPl : (putT e (z) M).length = q := (putT_len _ _ _).trans HL.out
        rw [hPl] at h7 hr3 HE
        go_wp2
        go_roundw
        case rel => exact ⟨k + 1, putT e (z) M, A3, c3, by omega, by go_num, Lib.hid hPl, Lib.hid (rt_put HR.out HM.out _), Lib.hid (unl_putT HR.out HU.out _ _), Lib.hid (ok_put HR.out HM.out HO.out he _), h7, hr3, HE.out⟩
        case measure => simp [intOf]; omega
      · have hkz2 : ¬ ((k : Int) < (V.length : Int)) := by omega
        clear hrq hvk
        go_wp2_with fail
        replace h7 := Blk.drew h7
        replace hr2 := hr2.ext (Ext.refl _).drew
        replace HE := Lib.hid HE.out.drew
        replace HB := Lib.hid HB.out.drew
        have l8 := h7.lt
        have e3 := he2 _ HB.out
        have hb7 : b ≠ g7 := fun h => tlb_en h7 (h ▸ e3)
        refine wp_region_seq [(1, false), (2, false), (3, false), (4, false), (5, false), (0, true), (6, true), (7, true)] (Gap (g7) (g7 + 1)) (by kernel_rfl) (by kernel_rfl) (Gap.refl _ _) (fun _ _ _ => Gap.trans) ?_; simp only [List.map, nth_z, nth_s]
        (try simp only [Act.put, List.setIfInBounds_toArray, List.set_cons_zero, List.set_cons_succ])
        (repeat (first | (refine seq_skip (by rfl) ?_; intro K hK; simp only [Act.put, List.setIfInBounds_toArray, List.set_cons_zero, List.set_cons_succ]; refine hK _ ?_; clear hK K) | (refine seq_skipc (by rfl) ?_; intro K hK; simp only [Act.put, List.setIfInBounds_toArray, List.set_cons_zero, List.set_cons_succ]; refine hK _ ?_; clear hK K) | (refine seq_read (by rfl) (by rfl) ?_; intro K hK; go_big_quiet_op; first | go_big_quiet_on | (refine ⟨_, fun _ _ => rfl, ?_⟩; go_big_quiet_on))))
        refine seq_load_rng rfl rfl ((fun x hx => rgx_gap hx e3 (by omega))) rfl Tryd.underlying29 (en_info _) (by rfl) ?_; intro K hK; simp only [Act.put, List.setIfInBounds_toArray, List.set_cons_zero, List.set_cons_succ]; refine hK _ ?_; clear hK K
        (repeat (first | (refine seq_skip (by rfl) ?_; intro K hK; simp only [Act.put, List.setIfInBounds_toArray, List.set_cons_zero, List.set_cons_succ]; refine hK _ ?_; clear hK K) | (refine seq_skipc (by rfl) ?_; intro K hK; simp only [Act.put, List.setIfInBounds_toArray, List.set_cons_zero, List.set_cons_succ]; refine hK _ ?_; clear hK K) | (refine seq_read (by rfl) (by rfl) ?_; intro K hK; go_big_quiet_op; first | go_big_quiet_on | (refine ⟨_, fun _ _ => rfl, ?_⟩; go_big_quiet_on))))
        refine seq_load_now rfl rfl h7 rfl Tryd.underlying24 (by kernel_rfl) (by rfl) (Gap.refl _ _ _) ?_; intro K hK; simp only [Act.put, List.setIfInBounds_toArray, List.set_cons_zero, List.set_cons_succ]; refine hK _ _ ?_; clear hK K
        refine seq_call (cpt (-1) _ hr2 (hT.ext HE.out)) rfl Tryd.func24 (by kernel_rfl) (by kernel_rfl) (by rfl) (by rfl) ?_; intro K hK; rintro e w' ⟨A3, c3, rfl, hr3, hE⟩; refine ⟨_, rfl, (Gap.ext hE), ?_⟩; simp only [Act.put, List.setIfInBounds_toArray, List.set_cons_zero, List.set_cons_succ]; refine hK _ _ ?_; clear hK K
        replace h7 := h7.ext hE
        replace HE := Lib.hid (HE.out.trans hE)
        clear hE
        refine seq_store_row rfl rfl rfl (h7) (by kernel_rfl) (by rfl) (by simp [Value.oneCell']) (by rfl) (Gap.row _ (by omega) (by omega) _) ?_; intro K hK; simp only [Act.put, List.setIfInBounds_toArray, List.set_cons_zero, List.set_cons_succ]; refine hK _ _ ?_; clear hK K
        refine seq_done ?_
        replace hr3 := rowv_tlb hr3 h7 #[.slice A3 (putT e (-1) M).length c3]
        replace h7 := h7.row #[.slice A3 (putT e (-1) M).length c3]
        replace HE := Lib.hid (HE.out.row l7 #[.slice A3 (putT e (-1) M).length c3])
        have hPl : (putT e (-1) M).length = q := (putT_len _ _ _).trans HL.out
        rw [hPl] at h7 hr3 HE
        go_wp2
        go_roundw
        case rel => exact ⟨k + 1, putT e (-1) M, A3, c3, by omega, by go_num, Lib.hid hPl, Lib.hid (rt_put HR.out HM.out _), Lib.hid (unl_putT HR.out HU.out _ _), Lib.hid (ok_put HR.out HM.out HO.out he _), h7, hr3, HE.out⟩
        case measure => simp [intOf]; omega
    · obtain rfl : k = L.length := by omega
      clear hrow hok hlt hrq hvk hk
      obtain rfl : q = M.length := HL.out.symm
      have hpw := fun i j => @pw_at (allT M) (unl_pair HR.out HU.out) i j
      have hcnt := all_le M
      have crm := fun w h k => C.right A2 M c2 w HO.out h k
      rw [HR.out] at crm
      have cal := fun w h k => C.all A2 M c2 w HR.out h k
      clear HU HO HR HL
      generalize hqq : M.length = q at *
      clear hqq
      go_wp2_with ((refine wpList_load_blk (by rfl) 24 _ rfl rfl (by first | exact h7 | exact hb) Tryd.underlying24 rfl (by kernel_rfl) ?_)); refine (cal _ hr2 (hT.ext HE.out)).mono ?_; rintro e w' ⟨A3, c3, rfl, hr3, -, hE⟩; (try replace hb := hb.ext hE); (try replace hm := hm.ext hE); (try replace h7 := h7.ext hE); (try replace HE := Lib.hid (HE.out.trans hE))
      have hr2w : ∀ W : World, Ext w' W → RowV KS W A2 M c2 := fun W h => (hr2.ext hE).ext h
      clear hE hr2 cal
      have hEm : (allT M).length ≤ 9223372036854775807 := Nat.le_trans hr3.2.2.1 hr3.2.2.2
      have hrx : ∀ W : World, Ext w' W → RowV KE W A3 (allT M) c3 := fun W h => hr3.ext h
      have HB0 := Lib.hid (Ext.refl w')
      generalize allT M = E at *
      clear hr3
      go_wp2
      go_loopw [12] (fun i wr => ∃ k : Nat, k ≤ E.length ∧ i = .int .i64 k ∧ Ext w' wr) (fun i _ => (E.length - intOf i).toNat)
      case atStart => exact ⟨0, by omega, rfl, Ext.refl _⟩
      case round =>
        obtain ⟨k, hk, rfl, hE⟩ := hrel
        have HB := Lib.hid hE
        clear hE
        by_cases hlt : k < E.length
        · have hkz : (k : Int) < (E.length : Int) := by omega
          go_wp2
          go_loopw [13] (fun i wr => ∃ m : Nat, m ≤ k ∧ i = .int .i64 m ∧ Ext w' wr) (fun i _ => (k - intOf i).toNat)
          case atStart => exact ⟨0, by omega, rfl, HB.out⟩
          case round =>
            clear HB
            obtain ⟨m, hmk, rfl, hE⟩ := hrel
            have HB := Lib.hid hE
            clear hE
            by_cases hlm : m < k
            · have hmz : (m : Int) < (k : Int) := by omega
              have hmz2 : (m : Int) < (E.length : Int) := by omega
              obtain ⟨b, off, rfl, hb, hr4⟩ := (hrx _ HB.out).some (by omega)
              have e1 : wr.rangeAt b (off + k * 11) (enC (E.getD k e0)).toList := hr4 k hlt
              have e2 : wr.rangeAt b (off + m * 11) (enC (E.getD m e0)).toList := hr4 m (by omega)
              have rsm := fun w => rsame13_c (E.getD k e0) (E.getD m e0) w
              rw [hpw k m hlm hlt] at rsm
              clear hrx hpw hr4
              generalize E.getD k e0 = ek at *
              generalize E.getD m e0 = em at *
              go_wp2_with fail
              replace HB := Lib.hid HB.out.drew
              refine wp_region_seq [(0, false), (1, false), (2, false), (3, false), (4, false), (5, false), (6, false), (7, false), (8, true)] Ext (by kernel_rfl) (by kernel_rfl) Ext.refl (fun _ _ _ => Ext.trans) ?_; simp only [List.map, nth_z, nth_s]
              (try simp only [Act.put, List.setIfInBounds_toArray, List.set_cons_zero, List.set_cons_succ])
              (repeat (first | (refine seq_skip (by rfl) ?_; intro K hK; simp only [Act.put, List.setIfInBounds_toArray, List.set_cons_zero, List.set_cons_succ]; refine hK _ ?_; clear hK K) | (refine seq_skipc (by rfl) ?_; intro K hK; simp only [Act.put, List.setIfInBounds_toArray, List.set_cons_zero, List.set_cons_succ]; refine hK _ ?_; clear hK K) | (refine seq_read (by rfl) (by rfl) ?_; intro K hK; go_big_quiet_op; first | go_big_quiet_on | (refine ⟨_, fun _ _ => rfl, ?_⟩; go_big_quiet_on))))
              refine seq_load_rng rfl rfl ((fun x hx => rgx_ext hx e1)) rfl Tryd.underlying29 (en_info _) (by rfl) ?_; intro K hK; simp only [Act.put, List.setIfInBounds_toArray, List.set_cons_zero, List.set_cons_succ]; refine hK _ ?_; clear hK K
              (repeat (first | (refine seq_skip (by rfl) ?_; intro K hK; simp only [Act.put, List.setIfInBounds_toArray, List.set_cons_zero, List.set_cons_succ]; refine hK _ ?_; clear hK K) | (refine seq_skipc (by rfl) ?_; intro K hK; simp only [Act.put, List.setIfInBounds_toArray, List.set_cons_zero, List.set_cons_succ]; refine hK _ ?_; clear hK K) | (refine seq_read (by rfl) (by rfl) ?_; intro K hK; go_big_quiet_op; first | go_big_quiet_on | (refine ⟨_, fun _ _ => rfl, ?_⟩; go_big_quiet_on))))
              refine seq_load_rng rfl rfl ((fun x hx => rgx_ext hx e2)) rfl Tryd.underlying29 (en_info _) (by rfl) ?_; intro K hK; simp only [Act.put, List.setIfInBounds_toArray, List.set_cons_zero, List.set_cons_succ]; refine hK _ ?_; clear hK K
              refine seq_call (rsm _) rfl Tryd.func28 (by kernel_rfl) (by kernel_rfl) (by rfl) (by rfl) ?_; intro K hK; rintro e w' ⟨rfl, hE⟩; refine ⟨_, rfl, hE, ?_⟩; simp only [Act.put, List.setIfInBounds_toArray, List.set_cons_zero, List.set_cons_succ]; refine hK _ _ ?_; clear hK K
              replace HB := Lib.hid (HB.out.trans hE)
              clear hE
              refine seq_done ?_
              go_wp2
              go_roundw
              case rel => exact ⟨m + 1, by omega, by go_num, HB.out⟩
              case measure => simp [intOf]; omega
            · obtain rfl : m = k := by omega
              clear hrx hpw
              go_wp2
              go_roundw
              case rel => exact ⟨m + 1, by omega, by go_num, HB.out⟩
              case measure => simp [intOf]; omega
        · obtain rfl : k = E.length := by omega
          clear hrx hpw
          replace h7 := h7.ext HB.out
          replace HE := Lib.hid (HE.out.trans HB.out)
          have dl : decide ((E.length : Int) ≤ 4 * (q : Int)) = true := by simp; omega
          have w4 : IntKind.i64.wrap (4 * (q : Int)) = 4 * (q : Int) := IntWalk.i64_in _ (by omega)
          go_wp2_with ((refine wpList_load_blk (by rfl) 24 _ rfl rfl (by first | exact h7 | exact hb) Tryd.underlying24 rfl (by kernel_rfl) ?_)); refine (crm _ (hr2w _ HB.out) (hT.ext HE.out)).mono ?_; rintro e w' ⟨rfl, hE⟩; (try replace hb := hb.ext hE); (try replace hm := hm.ext hE); (try replace h7 := h7.ext hE); (try replace HE := Lib.hid (HE.out.trans hE))
          clear hE crm
          go_wp2
          go_ret
          exact ⟨rfl, HE.out⟩
end Go.Proofs.YtdbflmceomnmlaaDoor
