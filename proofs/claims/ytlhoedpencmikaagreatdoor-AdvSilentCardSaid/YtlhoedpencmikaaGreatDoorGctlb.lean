/- Package tlb: home, is, strays, Right; slices.IndexFunc and ContainsFunc over a set's ways. -/
import Derived.Test.YtlhoedpencmikaaGreatDoorGrtlb
namespace Go.Proofs.YtlhoedpencmikaaGreatDoor
open Go.ChangeShapes Go.WideShapes Go.ChangeAt Go.RowKit
set_option linter.unusedVariables false
set_option linter.unusedSimpArgs false
set_option maxRecDepth 10000

theorem home14_c (e : En) (l0 : 0 ≤ e.l) (l2 : e.l ≤ 2) (e1 : e.vp < 18446744073709551616) (n : Nat) (hn : 0 < n) (hn2 : n ≤ 9223372036854775807) (w : World) :
    Calls Tryz.prog 55 #[.agg (enC e), .int .i64 (n : Int)] w fun r w' => r = .returned (.int .i64 ((ixT n e.vp e.l : Nat) : Int)) ∧ Ext w w' := by
  have h1 := Blk.new w 66 (enC e)
  have HE := Lib.hid ((Ext.refl w).alloc (.cells (enC e) 66))
  have x3 := h1.en_l
  have x4 := h1.en_vp
  have he := ix_eq hn (l := e.l) (v := (e.vp : Int)) (by omega) (by have := (pag_pos l0 l2).1; omega)
  have hlt := ix_lt hn (e.vp : Int) e.l
  have hp := pag_is l0 l2
  generalize ixT n (e.vp : Int) e.l = x at *
  generalize e.vp = v at *
  generalize hl : e.l = l at *
  clear hl
  rcases hp with ⟨rfl, hp⟩ | ⟨rfl, hp⟩ | ⟨rfl, hp⟩
  all_goals
    rw [hp] at he
    clear hp l0 l2
    replace he := he.symm
    (try rw [Int.ediv_one] at he)
    go_enter Tryz.func55, Tryz.ntmps55
    go_wp2
    go_ret
    exact ⟨rfl, HE.out⟩
theorem is14_c (A : Option Addr) (n c : Nat) (i v : Int) (w : World) :
    Calls Tryz.prog 69 #[.agg #[.slice A n c], .int .i64 i, .int .i64 v] w fun r w' => r = .returned (.bool (decide (0 ≤ i) && (decide (i < (n : Int)) && (decide (0 ≤ v) && decide (v < 4))))) ∧ Ext w w' := by
  have h1 := Blk.new w 24 #[.slice A n c]
  have HE := Lib.hid ((Ext.refl w).alloc (.cells #[.slice A n c] 24))
  have x1 := (h1.cell 0).trans rfl
  cases d1 : decide (0 ≤ i) <;> cases d2 : decide (i < (n : Int)) <;> cases d3 : decide (0 ≤ v) <;> cases d4 : decide (v < 4)
  all_goals
    go_enter Tryz.func69, Tryz.ntmps69
    go_wp2
    go_ret
    exact ⟨rfl, HE.out⟩
/-- what IndexFunc tells -/
def idF (p : En → Bool) (s : Ws) : Int := if fbW p s = true then ((fiW p s : Nat) : Int) else -1
theorem idF_y {p : En → Bool} {s : Ws} (h : fbW p s = true) : idF p s = ((fiW p s : Nat) : Int) := by unfold idF; rw [if_pos h]
theorem idF_n {p : En → Bool} {s : Ws} (h : fbW p s = false) : idF p s = -1 := by unfold idF; rw [h]; rfl
attribute [irreducible] idF
set_option maxRecDepth 100000 in
set_option maxHeartbeats 1000000 in
theorem idxf14_c (s : Ws) (b : Nat) (F : Nat) (held : Array Value) (p : En → Bool) (w : World) (eg : ∀ args w, (callFunc F args).run Tryz.prog w = .ok (.enter F args) w)
    (hel : ∀ k, k < 4 → w.rangeAt b (k * 11) (enC (s.at k)).toList)
    (hF : ∀ k, k < 4 → ∀ w', Ext w w' → Calls Tryz.prog F (#[.agg (enC (s.at k))] ++ held) w' fun e w'' => e = .returned (.bool (p (s.at k))) ∧ Ext w' w'') :
    Calls Tryz.prog 149 #[.slice (some ⟨b, 0, none⟩) 4 4, .func (.func F) #[] held] w fun e w' => e = .returned (.int .i64 (idF p s)) ∧ Ext w w' := by
  have HF := Lib.hid hF
  have HL := Lib.hid hel
  clear hF hel
  go_enter Tryz.func149, Tryz.ntmps149
  go_wp2
  go_loopw [8] (fun i wr => ∃ k : Nat, k ≤ 4 ∧ i = .int .i64 k ∧ Hid (∀ j, j < k → p (s.at j) = false) ∧ Ext w wr) (fun i _ => (4 - intOf i).toNat)
  case atStart => exact ⟨0, by omega, rfl, Lib.hid (fun j hj => absurd hj (by omega)), Ext.refl _⟩
  case round =>
    obtain ⟨k, hk, rfl, I, hE⟩ := hrel
    have HE := Lib.hid hE
    clear hE
    by_cases hlt : k < 4
    · have hkz : (k : Int) < 4 := by omega
      have hcl := HF.out k hlt _ HE.out
      have e2 := rgx_ext HE.out (HL.out k hlt)
      have HK := fi_hit (p := p) (s := s) hlt I.out
      have IK : p (s.at k) = false → Hid (∀ j, j < k + 1 → p (s.at j) = false) := fun h => Lib.hid fun j hj => by
        rcases Nat.lt_or_ge j k with h1 | h1
        · exact I.out j h1
        · obtain rfl : j = k := by omega
          exact h
      clear I hk
      generalize s.at k = e at hcl e2 HK IK
      generalize p e = B at hcl HK IK
      go_wp2_with (refine wpList_load_rng (w := wr) (by rfl) 66 _ rfl rfl e2 Tryz.underlying66 rfl (en_info _) ?_)
      refine hcl.mono ?_
      rintro e1 w' ⟨rfl, hE⟩
      replace HE := Lib.hid (HE.out.trans hE)
      clear hcl hE e2
      cases B
      · have I2 := IK rfl
        clear IK HK
        go_wp2
        go_roundw
        case rel => exact ⟨k + 1, by omega, by go_num, I2, HE.out⟩
        case measure => simp [intOf]; omega
      · obtain ⟨K1, K2⟩ := HK rfl
        have HK1 : Hid (idF p s = (k : Int)) := Lib.hid (by rw [idF_y K2, ← K1])
        clear IK HK K1 K2
        go_wp2
        go_ret
        exact ⟨by rw [HK1.out]; rfl, HE.out⟩
    · obtain rfl : k = 4 := by omega
      have HN := fi_none (p := p) (s := s) I.out
      have HK1 : Hid (idF p s = -1) := Lib.hid (idF_n HN.2)
      clear HN
      go_wp2
      go_ret
      exact ⟨by rw [HK1.out]; rfl, HE.out⟩
theorem cnf14_c (s : Ws) (b : Nat) (F : Nat) (held : Array Value) (p : En → Bool) (w : World) (eg : ∀ args w, (callFunc F args).run Tryz.prog w = .ok (.enter F args) w)
    (hel : ∀ k, k < 4 → w.rangeAt b (k * 11) (enC (s.at k)).toList)
    (hF : ∀ k, k < 4 → ∀ w', Ext w w' → Calls Tryz.prog F (#[.agg (enC (s.at k))] ++ held) w' fun e w'' => e = .returned (.bool (p (s.at k))) ∧ Ext w' w'') :
    Calls Tryz.prog 121 #[.slice (some ⟨b, 0, none⟩) 4 4, .func (.func F) #[] held] w fun e w' => e = .returned (.bool (fbW p s)) ∧ Ext w w' := by
  have hi := idxf14_c s b F held p w eg hel hF
  clear hF hel
  have hy := @idF_y p s
  have hn := @idF_n p s
  generalize fiW p s = i at hy
  generalize fbW p s = B at hy hn ⊢
  cases B
  · rw [hn rfl] at hi
    clear hy hn
    go_enter Tryz.func121, Tryz.ntmps121
    go_wp2_with fail
    refine hi.mono ?_
    rintro e w' ⟨rfl, hE⟩
    go_wp2
    go_ret
    exact ⟨rfl, hE⟩
  · rw [hy rfl] at hi
    clear hy hn
    have d : decide (0 ≤ (i : Int)) = true := by simp
    go_enter Tryz.func121, Tryz.ntmps121
    go_wp2_with fail
    refine hi.mono ?_
    rintro e w' ⟨rfl, hE⟩
    go_wp2
    go_ret
    exact ⟨by (rfl), hE⟩
theorem strays1_c (e : En) (he : e.v = true → 0 ≤ e.l ∧ e.l ≤ 2) (e1 : e.vp < 18446744073709551616) (n i : Nat) (hn : 0 < n) (hn2 : n ≤ 9223372036854775807) (g1 g2 : Nat) (w : World)
    (c1 : w.cell? ⟨g1, 0, none⟩ = some (.int .i64 (n : Int))) (c2 : w.cell? ⟨g2, 0, none⟩ = some (.int .i64 (i : Int))) :
    Calls Tryz.prog 122 #[.agg (enC e), .pointer (some ⟨g1, 0, none⟩), .pointer (some ⟨g2, 0, none⟩)] w fun r w' => r = .returned (.bool (!inT n i e)) ∧ Ext w w' := by
  have h1 := Blk.new w 66 (enC e)
  have HE := Lib.hid ((Ext.refl w).alloc (.cells (enC e) 66))
  replace c1 := ext_cell HE.out c1
  replace c2 := ext_cell HE.out c2
  have x0 := h1.en_v
  have hin := in_eq n i e
  cases hv : e.v
  · rw [hv] at x0 hin
    rw [hin]
    clear hin
    go_enter Tryz.func122, Tryz.ntmps122
    go_wp2_with fail
    replace h1 := Blk.drew h1; replace HE := Lib.hid HE.out.drew
    refine wp_region_seq [(0, false), (1, false), (2, false), (3, false), (4, false), (6, false), (5, true), (7, false), (8, false), (9, false)] Ext (by kernel_rfl) (by kernel_rfl) Ext.refl (fun _ _ _ => Ext.trans) ?_; simp only [List.map, nth_z, nth_s]
    (repeat ((refine seq_read (by rfl) (by rfl) ?_; intro K hK; go_big_quiet_op; (refine ⟨_, fun _ _ => rfl, ?_⟩; go_big_quiet_on))))
    refine seq_value ((.bool false)) (by rfl) (fun x hx => by have hq := ext_cell hx (x0); simp [go_sem, execOp, Act.eval, hq]) ?_; intro K hK; simp only [Act.put, List.setIfInBounds_toArray, List.set_cons_zero, List.set_cons_succ]; refine hK _ ?_; clear hK K
    (repeat (first | (refine seq_skip (by rfl) ?_; intro K hK; simp only [Act.put, List.setIfInBounds_toArray, List.set_cons_zero, List.set_cons_succ]; refine hK _ ?_; clear hK K) | (refine seq_skipc (by rfl) ?_; intro K hK; simp only [Act.put, List.setIfInBounds_toArray, List.set_cons_zero, List.set_cons_succ]; refine hK _ ?_; clear hK K) | (refine seq_read (by rfl) (by rfl) ?_; intro K hK; go_big_quiet_op; first | go_big_quiet_on | (refine ⟨_, fun _ _ => rfl, ?_⟩; go_big_quiet_on))))
    refine seq_done ?_
    go_wp2
    go_ret
    exact ⟨rfl, HE.out⟩
  · have hl := he hv
    rw [hv] at x0 hin
    have cho := fun w => home14_c e hl.1 hl.2 e1 n hn hn2 w
    have hd : ∀ x : Nat, (!(!true || decide (x = i))) = ((x : Int) != (i : Int)) := fun x => by
      by_cases h : x = i
      · subst h; simp
      · have h2 : (x : Int) ≠ (i : Int) := by omega
        simp [h, h2]
    rw [hin, hd]
    clear hin hd he hl hv
    generalize ixT n (e.vp : Int) e.l = x at cho ⊢
    go_enter Tryz.func122, Tryz.ntmps122
    go_wp2_with fail
    replace h1 := Blk.drew h1; replace HE := Lib.hid HE.out.drew
    replace c1 := ext_cell (Ext.refl _).drew c1
    replace c2 := ext_cell (Ext.refl _).drew c2
    refine wp_region_seq [(0, false), (1, false), (2, false), (3, false), (4, false), (6, false), (5, true), (7, false), (8, false), (9, false)] Ext (by kernel_rfl) (by kernel_rfl) Ext.refl (fun _ _ _ => Ext.trans) ?_; simp only [List.map, nth_z, nth_s]
    (repeat ((refine seq_read (by rfl) (by rfl) ?_; intro K hK; go_big_quiet_op; (refine ⟨_, fun _ _ => rfl, ?_⟩; go_big_quiet_on))))
    refine seq_value ((.bool true)) (by rfl) (fun x hx => by have hq := ext_cell hx (x0); simp [go_sem, execOp, Act.eval, hq]) ?_; intro K hK; simp only [Act.put, List.setIfInBounds_toArray, List.set_cons_zero, List.set_cons_succ]; refine hK _ ?_; clear hK K
    (repeat ((refine seq_read (by rfl) (by rfl) ?_; intro K hK; go_big_quiet_op; (go_big_quiet_on))))
    refine seq_load rfl rfl (fun x hx => Blk.ext (h1) hx) rfl Tryz.underlying66 (by kernel_rfl) (by rfl) ?_; intro K hK; simp only [Act.put, List.setIfInBounds_toArray, List.set_cons_zero, List.set_cons_succ]; refine hK _ ?_; clear hK K
    skip
    refine seq_value ((.int .i64 (n : Int))) (by rfl) (fun x hx => by have hq := ext_cell hx (c1); simp [go_sem, execOp, Act.eval, hq]) ?_; intro K hK; simp only [Act.put, List.setIfInBounds_toArray, List.set_cons_zero, List.set_cons_succ]; refine hK _ ?_; clear hK K
    skip
    refine seq_value ((.int .i64 (i : Int))) (by rfl) (fun x hx => by have hq := ext_cell hx (c2); simp [go_sem, execOp, Act.eval, hq]) ?_; intro K hK; simp only [Act.put, List.setIfInBounds_toArray, List.set_cons_zero, List.set_cons_succ]; refine hK _ ?_; clear hK K
    skip
    refine seq_call (cho _) rfl Tryz.func55 (by kernel_rfl) (by kernel_rfl) (by rfl) (by rfl) ?_; intro K hK; rintro e w' ⟨rfl, hE⟩; refine ⟨_, rfl, hE, ?_⟩; simp only [Act.put, List.setIfInBounds_toArray, List.set_cons_zero, List.set_cons_succ]; refine hK _ _ ?_; clear hK K
    replace h1 := h1.ext hE; (replace HE := Lib.hid (HE.out.trans hE))
    clear hE
    (repeat ((refine seq_read (by rfl) (by rfl) ?_; intro K hK; go_big_quiet_op; first | go_big_quiet_on | (refine ⟨_, fun _ _ => rfl, ?_⟩; go_big_quiet_on))))
    refine seq_done ?_
    go_wp2
    go_ret
    exact ⟨rfl, HE.out⟩
theorem blk_rng {w : World} {g : Nat} {t : TypeId} {cs : Array Value} (h : Blk w g t cs) : w.rangeAt g 0 cs.toList := h.part 0 (by rw [Nat.zero_add]; simp)
theorem strays14_c (s : St) (hs : ∀ k, k < 4 → (s.ws.at k).v = true → 0 ≤ (s.ws.at k).l ∧ (s.ws.at k).l ≤ 2) (hv : ∀ k, k < 4 → (s.ws.at k).vp < 18446744073709551616) (n i : Nat) (hn : 0 < n) (hn2 : n ≤ 9223372036854775807) (w : World) :
    Calls Tryz.prog 74 #[.agg (stC s), .int .i64 (i : Int), .int .i64 (n : Int)] w fun r w' => r = .returned (.bool (fbW (fun e => !inT n i e) s.ws)) ∧ Ext w w' := by
  obtain ⟨W0, hW⟩ : ∃ W0, W0 = ((w.alloc (.cells (stC s) 69)).alloc (.cells #[.int .i64 (i : Int)] 3)).alloc (.cells #[.int .i64 (n : Int)] 3) := ⟨_, rfl⟩
  have HE : Hid (Ext w W0) := Lib.hid (by rw [hW]; exact (((Ext.refl w).alloc _).alloc _).alloc _)
  have h1 : Blk W0 w.heap.size 69 (stC s) := by rw [hW]; exact ((Blk.new w _ _).alloc _).alloc _
  have c2 : W0.cell? ⟨w.heap.size + 1, 0, none⟩ = some (.int .i64 (i : Int)) := by rw [hW]; exact (((blk_at (by simp)).alloc _).cell 0).trans rfl
  have c1 : W0.cell? ⟨w.heap.size + 2, 0, none⟩ = some (.int .i64 (n : Int)) := by rw [hW]; exact ((blk_at (by simp)).cell 0).trans rfl
  have hel : ∀ k, k < 4 → W0.rangeAt w.heap.size (k * 11) (enC (s.ws.at k)).toList := fun k hk => by
    have := rng_way (blk_rng h1) hk
    rwa [Nat.zero_add] at this
  have hf := cnf14_c s.ws w.heap.size 122 #[.pointer (some ⟨w.heap.size + 2, 0, none⟩), .pointer (some ⟨w.heap.size + 1, 0, none⟩)] (fun e => !inT n i e) W0 (fun args w => run_callFunc Tryz.func122 (by kernel_rfl) (by kernel_rfl) args w) hel
    (fun k hk w' hE => strays1_c (s.ws.at k) (hs k hk) (hv k hk) n i hn hn2 _ _ w' (ext_cell hE c1) (ext_cell hE c2))
  generalize fbW (fun e => !inT n i e) s.ws = B at hf ⊢
  clear c1 c2 hs hel
  have HW := Lib.hid hW
  clear hW
  go_enter Tryz.func74, Tryz.ntmps74
  go_wp2_with fail
  rw [← HW.out]
  refine hf.mono ?_
  rintro e w' ⟨rfl, hE⟩
  replace HE := Lib.hid (HE.out.trans hE)
  clear hE hf h1
  go_wp2
  go_ret
  exact ⟨rfl, HE.out⟩
theorem ra_fb (n i : Nat) (s : St) : rightAt n i s = (rightS s && !fbW (fun e => !inT n i e) s.ws) := by
  unfold rightAt fbW
  simp
set_option maxRecDepth 100000 in
set_option maxHeartbeats 2000000 in
theorem right14_c (A : Option Addr) (L : List St) (c : Nat) (hok : ∀ i, i < L.length → (sT L i).ok) (w : World) (hr : RowV KS w A L c) (hT : Lays w) :
    Calls Tryz.prog 39 #[.agg #[.slice A L.length c]] w fun r w' => r = .returned (.bool (rightT L)) ∧ Ext w w' := by
  have h1 := Blk.new w 24 #[.slice A L.length c]
  have HE := Lib.hid ((Ext.refl w).alloc (.cells #[.slice A L.length c] 24))
  have hrow : ∀ W : World, Ext w W → RowV KS W A L c := fun W h => hr.ext h
  have hL : L.length ≤ 9223372036854775807 := Nat.le_trans hr.2.2.1 hr.2.2.2
  have HN : ∀ i, i < L.length → rightAt L.length i (sT L i) = false → rightT L = false := fun i hi h => rt_no hi h
  have HY : L.length ≤ 16 → (∀ j, j < L.length → rightAt L.length j (sT L j) = true) → rightT L = true := fun h k => rt_of h k
  have HX : 16 < L.length → rightT L = false := fun h => rt_long h
  generalize rightT L = T at HN HY HX ⊢
  clear hr
  have x1 : (w.alloc (.cells #[.slice A L.length c] 24)).cell? ⟨w.heap.size, 0, none⟩ = some (.slice A L.length c) := (h1.cell 0).trans rfl
  by_cases h16 : 16 < L.length
  · rw [HX h16]
    have d1 : decide (16 < (L.length : Int)) = true := by simp; omega
    clear hrow hok HN HY HX hT
    go_enter Tryz.func39, Tryz.ntmps39
    go_wp2
    go_ret
    exact ⟨rfl, HE.out⟩
  have d1 : decide (16 < (L.length : Int)) = false := by simp; omega
  replace h16 : L.length ≤ 16 := by omega
  replace HY := HY h16
  clear HX
  go_enter Tryz.func39, Tryz.ntmps39
  go_wp2
  clear x1
  go_loopw [12] (fun i wr => ∃ k : Nat, k ≤ L.length ∧ i = .int .i64 k ∧ Hid (∀ j, j < k → rightAt L.length j (sT L j) = true) ∧ Blk wr w.heap.size 24 #[.slice A L.length c] ∧ Ext w wr) (fun i _ => (L.length - intOf i).toNat)
  case atStart => exact ⟨0, by omega, rfl, Lib.hid (fun j hj => absurd hj (by omega)), h1, HE.out⟩
  case round =>
    clear h1 HE
    obtain ⟨k, hk, rfl, I, h1, hE⟩ := hrel
    have HE := Lib.hid hE
    clear hE
    by_cases hlt : k < L.length
    · have hkz : (k : Int) < (L.length : Int) := by omega
      obtain ⟨b, off, rfl, hb, hrx⟩ := (hrow _ HE.out).some (by omega)
      have e1 : wr.rangeAt b (off + k * 45) (stC (sT L k)).toList := by rw [sT_eq]; exact hrx k hlt
      have hsk := hok k hlt
      have hd := HN k hlt
      have IK : rightAt L.length k (sT L k) = true → Hid (∀ j, j < k + 1 → rightAt L.length j (sT L j) = true) := fun h => Lib.hid fun j hj => by
        rcases Nat.lt_or_ge j k with h1 | h1
        · exact I.out j h1
        · obtain rfl : j = k := by omega
          exact h
      have hra := ra_fb L.length k (sT L k)
      clear hrx hrow hok HN I hk
      generalize rightAt L.length k (sT L k) = R at *
      generalize sT L k = s at *
      have crs := fun w h => right13_c s hsk w h
      have hstr := fun h => strays14_c s (fun q hq hv => have k := may_v (right_may h hq) hv; ⟨k.l0, k.l2⟩) (fun q hq => (at_ok hsk.1 hq).2.2.1) L.length k (by omega) hL
      have h2 := Blk.new wr 69 (stC s)
      have hE := (Ext.refl wr).alloc (.cells (stC s) 69)
      replace h1 := h1.ext hE
      replace HE := Lib.hid (HE.out.trans hE)
      clear hE
      cases hrs : rightS s
      · rw [hrs] at crs hra
        obtain rfl : R = false := hra
        have HZ := Lib.hid (hd rfl)
        clear hd hstr IK hrs
        go_wp2_with (first | (refine wpList_load_rng (w := wr) (by rfl) 69 _ rfl rfl e1 Tryz.underlying69 rfl (st_info _) ?_) | (refine wpList_store_new rfl 69 _ _ rfl (stC _) _ _ rfl rfl (st_info _) (by simp [stC_size]) (stC_one _) ?_) | (refine wpList_load_blk (by rfl) 69 _ rfl rfl h2 Tryz.underlying69 rfl (by kernel_rfl) ?_))
        refine (crs _ (hT.ext HE.out)).mono ?_
        rintro e w' ⟨rfl, hE⟩
        replace HE := Lib.hid (HE.out.trans hE)
        clear hE crs
        go_wp2
        go_ret
        exact ⟨by rw [HZ.out]; rfl, HE.out⟩
      · replace hstr := hstr hrs
        rw [hrs, Bool.true_and] at hra
        rw [hrs] at crs
        clear hrs
        generalize fbW (fun e => !inT L.length k e) s.ws = B at hstr hra
        go_wp2_with (first | (refine wpList_load_rng (w := wr) (by rfl) 69 _ rfl rfl e1 Tryz.underlying69 rfl (st_info _) ?_) | (refine wpList_store_new rfl 69 _ _ rfl (stC _) _ _ rfl rfl (st_info _) (by simp [stC_size]) (stC_one _) ?_) | (refine wpList_load_blk (by rfl) 69 _ rfl rfl h2 Tryz.underlying69 rfl (by kernel_rfl) ?_))
        refine (crs _ (hT.ext HE.out)).mono ?_
        rintro e w' ⟨rfl, hE⟩
        replace h1 := h1.ext hE; replace h2 := h2.ext hE; (replace HE := Lib.hid (HE.out.trans hE))
        clear hE crs e1
        have x1 : w'.cell? ⟨w.heap.size, 0, none⟩ = some (.slice (some ⟨b, off, none⟩) L.length c) := (h1.cell 0).trans rfl
        go_wp2_with (refine wpList_load_blk (by rfl) 69 _ rfl rfl h2 Tryz.underlying69 rfl (by kernel_rfl) ?_)
        refine (hstr _).mono ?_
        rintro e w2 ⟨rfl, hE⟩
        replace h1 := h1.ext hE; replace h2 := h2.ext hE; (replace HE := Lib.hid (HE.out.trans hE))
        clear hE hstr h2 x1
        cases B
        · obtain rfl : R = true := hra
          have I2 := IK rfl
          clear IK hd
          go_wp2
          go_roundw
          case rel => exact ⟨k + 1, by omega, by go_num, I2, h1, HE.out⟩
          case measure => simp [intOf]; omega
        · obtain rfl : R = false := hra
          have HZ := Lib.hid (hd rfl)
          clear IK hd
          go_wp2
          go_ret
          exact ⟨by rw [HZ.out]; rfl, HE.out⟩
    · obtain rfl : k = L.length := by omega
      have HZ := Lib.hid (HY I.out)
      clear HY HN I
      go_wp2
      go_ret
      exact ⟨by rw [HZ.out]; rfl, HE.out⟩
end Go.Proofs.YtlhoedpencmikaaGreatDoor
/- Package tlb: slices.Clone of sets, with, Use, Drop, Put, New. -/
namespace Go.Proofs.YtlhoedpencmikaaGreatDoor
open Go.ChangeShapes Go.WideShapes Go.ChangeAt Go.RowKit
set_option linter.unusedVariables false
set_option linter.unusedSimpArgs false
set_option maxRecDepth 10000

theorem clone14_c (A : Option Addr) (L : List St) (c : Nat) (hL : L.length ≤ 1000) (w : World) (hr : RowV KS w A L c) :
    Calls Tryz.prog 102 #[.slice A L.length c] w fun r w' => ∃ v, r = .returned v ∧ w'.ownsRow w.heap.size 69 45 v L.length (KS.flat L) ∧ Ext w w' := by
  rcases A with _ | a
  · obtain ⟨rfl, rfl⟩ := hr.2.1 rfl
    have he : ∀ w : World, (binOp .eql 22 (.slice none 0 0) (.slice none 0 0)).run Tryz.prog w = .ok (.bool true) w := fun _ => rfl
    go_enter Tryz.func102, Tryz.ntmps102
    go_wp2
    go_ret
    exact ⟨_, rfl, World.ownsRow_nil _ _ _ _, Ext.refl _⟩
  · have hcp : ∀ ty, ∃ v' w', (Builtin.append_ #[22, 22] ty #[.slice (some ⟨w.heap.size, 0, none⟩) 0 0, .slice (some a) L.length c]).run Tryz.prog (w.alloc (.cells #[] 69)) = .ok v' w' ∧ w'.ownsRow w.heap.size 69 45 v' L.length (KS.flat L) ∧ Ext w w' := fun ty =>
      copy_row ks_ok w hr (by show L.length * 232 ≤ _; omega) (by unfold maxLen; omega) ty
    have he : ∀ w : World, (binOp .eql 22 (.slice (some a) L.length c) (.slice none 0 0)).run Tryz.prog w = .ok (.bool false) w := fun _ => rfl
    clear hr
    go_enter Tryz.func102, Tryz.ntmps102
    go_wp2_with (at_builtin; refine wpList_append_run' _ rfl _ _ _ rfl _ _ rfl rfl _ (hcp _) ?_; rintro v3 w3 ⟨hown, hE3⟩)
    go_ret
    exact ⟨_, rfl, hown, hE3⟩
theorem with14p_c (A : Option Addr) (L : List St) (c : Nat) (hL : L.length ≤ 1000) (i : Nat) (hi : i < L.length) (s : St) (w : World) (hr : RowV KS w A L c) :
    Calls Tryz.prog 57 #[.agg #[.slice A L.length c], .int .i64 (i : Int), .agg (stC s)] w (MadeT (L.set i s) w) := by
  obtain ⟨W0, hW⟩ : ∃ W0, W0 = ((w.alloc (.cells #[.slice A L.length c] 24)).alloc (.cells (stC s) 69)).alloc (.cells #[.slice none 0 0] 24) := ⟨_, rfl⟩
  have HE : Hid (Ext w W0) := Lib.hid (by rw [hW]; exact (((Ext.refl w).alloc _).alloc _).alloc _)
  have h1 : Blk W0 w.heap.size 24 #[.slice A L.length c] := by rw [hW]; exact ((Blk.new w _ _).alloc _).alloc _
  have h2 : Blk W0 (w.heap.size + 1) 69 (stC s) := by rw [hW]; exact (blk_at (by simp)).alloc _
  have h3 : Blk W0 (w.heap.size + 2) 24 #[.slice none 0 0] := by rw [hW]; exact blk_at (by simp)
  have x0 : W0.cell? ⟨w.heap.size, 0, none⟩ = some (.slice A L.length c) := (h1.cell 0).trans rfl
  have hcl := clone14_c A L c hL W0 (hr.ext HE.out)
  have hsz : w.heap.size + 3 = W0.heap.size := by rw [hW]; simp
  have HW := Lib.hid hW
  rw [hW] at x0
  clear hW hr
  have hiz : (i : Int) < (L.length : Int) := by omega
  go_enter Tryz.func57, Tryz.ntmps57
  go_wp2_with fail
  rw [← HW.out]
  refine hcl.mono ?_
  rintro e w3 ⟨v3, rfl, hown, hE3⟩
  obtain ⟨g0, cap, cur0, es0, rfl, hb0, -, -, -, -⟩ := own_put ks_ok hown hi s
  replace h1 := h1.ext hE3
  replace h2 := (h2.ext hE3).apart (show w.heap.size + 1 ≠ w.heap.size by omega) #[.slice (some ⟨g0, 0, none⟩) L.length cap]
  replace h3 := (h3.ext hE3).apart (show w.heap.size + 2 ≠ w.heap.size by omega) #[.slice (some ⟨g0, 0, none⟩) L.length cap]
  replace hown := own_low hown (show w.heap.size < W0.heap.size by omega) #[.slice (some ⟨g0, 0, none⟩) L.length cap]
  replace HE := Lib.hid ((HE.out.trans hE3).row (Nat.le_refl _) #[.slice (some ⟨g0, 0, none⟩) L.length cap])
  have k1 := h1.row #[.slice (some ⟨g0, 0, none⟩) L.length cap]
  obtain ⟨g, cap', cur, es, hv, hbg, hbk, hfit, hes, hown2⟩ := own_put ks_ok hown hi s
  injection hv with e1 e2 e3
  injection e1 with e1
  injection e1 with e1
  subst e1 e3
  replace hfit : i * 45 + (stC s).size ≤ cur.size := hfit
  replace hes : putAt cur (i * 45) (stC s).toList = es := hes
  replace hbk : Blk (w3.setRow w.heap.size #[.slice (some ⟨g0, 0, none⟩) L.length cap]) g0 69 cur := hbk
  have m1 := k1.apart (show w.heap.size ≠ g0 by omega) es
  have m3 := h3.apart (show w.heap.size + 2 ≠ g0 by omega) es
  replace HE := Lib.hid (HE.out.row (show w.heap.size ≤ g0 by omega) es)
  have hlow := own_low hown2 (show w.heap.size + 2 < W0.heap.size by omega) #[.slice (some ⟨g0, 0, none⟩) L.length cap]
  have HS : (#[.slice A L.length c] : Array Value).setIfInBounds 0 (.slice (some ⟨g0, 0, none⟩) L.length cap) = #[.slice (some ⟨g0, 0, none⟩) L.length cap] := rfl
  have x2 : (w3.setRow w.heap.size #[.slice (some ⟨g0, 0, none⟩) L.length cap]).cell? ⟨w.heap.size, 0, none⟩ = some (.slice (some ⟨g0, 0, none⟩) L.length cap) := (k1.cell 0).trans rfl
  clear hown hE3 hcl
  go_wp2_with (first | (refine wpList_store_cell rfl 22 _ _ rfl rfl rfl h1 (by simp) HS (by kernel_rfl) rfl rfl ?_) | (refine wpList_load_blk (by rfl) 69 _ rfl rfl h2 Tryz.underlying69 rfl (by kernel_rfl) ?_) | (refine wpList_store_part rfl 69 _ _ rfl rfl rfl hbk (hfit) (hes) (st_info _) (stC_one _) ?_) | (refine wpList_load_blk (by rfl) 24 _ rfl rfl m1 Tryz.underlying24 rfl (by kernel_rfl) ?_) | (refine wpList_store_row rfl 24 _ _ rfl _ _ rfl rfl _ _ m3 (by kernel_rfl) (by rfl) (by simp [Value.oneCell']) ?_))
  refine bodyPost_ret (results_cell_row rfl _ _ _ _ _ _ _ rfl ((m3.row _)) Tryz.underlying24 rfl (by kernel_rfl)) rfl ?_
  obtain ⟨A', c', hv, hrow, hnew⟩ := own_rowv ks_ok (L := L.set i s) (by rw [List.length_set]; exact hlow)
  rw [List.length_set] at hv
  injection hv with e1 e2 e3
  subst e1 e3
  exact ⟨_, _, by rw [List.length_set], hrow, fun a h => Nat.le_trans (by omega) (hnew a h), HE.out.row (by omega) _⟩
/-! n zero sets, made at once -/
theorem s0_cells14 : stC s0 = #[.bool false, .int .u64 0, .bool false, .int .i64 0, .int .u64 0, .int .u64 0, .bool false, .bool false, .bool false, .bool false, .bool false, .bool false, .int .u64 0, .bool false, .int .i64 0, .int .u64 0, .int .u64 0, .bool false, .bool false, .bool false, .bool false, .bool false, .bool false, .int .u64 0, .bool false, .int .i64 0, .int .u64 0, .int .u64 0, .bool false, .bool false, .bool false, .bool false, .bool false, .bool false, .int .u64 0, .bool false, .int .i64 0, .int .u64 0, .int .u64 0, .bool false, .bool false, .bool false, .bool false, .bool false, .int .u8 0] := by unfold s0 e0; simp only [stC_eq, wsC_eq, enC_eq, pmC_eq]; rfl
def zsC (n : Nat) : Array Value := madeCells #[.bool false, .int .u64 0, .bool false, .int .i64 0, .int .u64 0, .int .u64 0, .bool false, .bool false, .bool false, .bool false, .bool false, .bool false, .int .u64 0, .bool false, .int .i64 0, .int .u64 0, .int .u64 0, .bool false, .bool false, .bool false, .bool false, .bool false, .bool false, .int .u64 0, .bool false, .int .i64 0, .int .u64 0, .int .u64 0, .bool false, .bool false, .bool false, .bool false, .bool false, .bool false, .int .u64 0, .bool false, .int .i64 0, .int .u64 0, .int .u64 0, .bool false, .bool false, .bool false, .bool false, .bool false, .int .u8 0] (n * 45)
theorem zs_flat (n : Nat) : (zsC n).toList = KS.flat (List.replicate n s0) := by
  have hl : (KS.flat (List.replicate n s0)).length = n * 45 := by
    have := flat_len ks_ok (List.replicate n s0)
    rwa [List.length_replicate] at this
  apply List.ext_getElem?
  intro k
  by_cases hk : k < n * 45
  · have h1 := flat_get ks_ok (List.replicate n s0) (k / 45) (k % 45) (by rw [List.length_replicate]; omega) (by show k % 45 < 45; omega)
    rw [show k / 45 * KS.sz + k % 45 = k by show k / 45 * 45 + k % 45 = k; omega, show (List.replicate n s0).getD (k / 45) KS.d = s0 by
      have : k / 45 < n := by omega
      simp [List.getD, this]] at h1
    rw [h1, show KS.cf s0 = #[.bool false, .int .u64 0, .bool false, .int .i64 0, .int .u64 0, .int .u64 0, .bool false, .bool false, .bool false, .bool false, .bool false, .bool false, .int .u64 0, .bool false, .int .i64 0, .int .u64 0, .int .u64 0, .bool false, .bool false, .bool false, .bool false, .bool false, .bool false, .int .u64 0, .bool false, .int .i64 0, .int .u64 0, .int .u64 0, .bool false, .bool false, .bool false, .bool false, .bool false, .bool false, .int .u64 0, .bool false, .int .i64 0, .int .u64 0, .int .u64 0, .bool false, .bool false, .bool false, .bool false, .bool false, .int .u8 0] from s0_cells14, Array.getElem?_toList]
    have hm : k % 45 < 45 := by omega
    unfold zsC madeCells
    rw [Array.getElem?_map, Array.getElem?_range, if_pos hk]
    simp only [Option.map_some]
    rw [getElem!_pos _ _ (by show k % 45 < 45; omega)]
    exact (Array.getElem?_eq_getElem (by show k % 45 < 45; omega)).symm
  · have h2 : (zsC n).toList.length = n * 45 := by rw [Array.length_toList]; unfold zsC; rw [size_madeCells]
    rw [List.getElem?_eq_none (by rw [h2]; omega), List.getElem?_eq_none (by rw [hl]; omega)]
theorem make_zs (n : Nat) (hn : n ≤ 1000) (W : World) : (Instr.makeSlice 22 (.int .i64 (n : Int)) (.int .i64 (n : Int))).run Tryz.prog W = .ok (.slice (some ⟨W.heap.size, 0, none⟩) n n) (W.alloc (.cells (zsC n) 69)) := by
  obtain ⟨i0, hi, hz0, hz1, hz2⟩ := info_parts (P := Tryz.prog) (e := 69) (z := .agg #[.bool false, .int .u64 0, .bool false, .int .i64 0, .int .u64 0, .int .u64 0, .bool false, .bool false, .bool false, .bool false, .bool false, .bool false, .int .u64 0, .bool false, .int .i64 0, .int .u64 0, .int .u64 0, .bool false, .bool false, .bool false, .bool false, .bool false, .bool false, .int .u64 0, .bool false, .int .i64 0, .int .u64 0, .int .u64 0, .bool false, .bool false, .bool false, .bool false, .bool false, .bool false, .int .u64 0, .bool false, .int .i64 0, .int .u64 0, .int .u64 0, .bool false, .bool false, .bool false, .bool false, .bool false, .int .u8 0]) (size := 45) (bytes := 232) (by kernel_rfl)
  have h := run_make (P := Tryz.prog) W 22 69 i0 _ Tryz.underlying22 hi hz0 .i64 .i64 (n : Int) (n : Int) (by omega) (by omega) (by rw [hz2]; omega) (by omega)
  rw [h, hz1, Int.toNat_natCast]; rfl
theorem zs_row (n : Nat) (hn : n ≤ 1000) (W : World) : RowV KS (W.alloc (.cells (zsC n) 69)) (some ⟨W.heap.size, 0, none⟩) (List.replicate n s0) n := by
  have h := World.ownsRow_lit (base := W.heap.size) (e := KS.e) (size := KS.sz) W (zsC n) n (Nat.le_refl _) (by unfold maxLen; omega) (by unfold zsC; rw [size_madeCells]; rfl)
  rw [zs_flat] at h
  obtain ⟨A, c, hv, hr, -⟩ := own_rowv ks_ok (L := List.replicate n s0) (by rw [List.length_replicate]; exact h)
  rw [List.length_replicate] at hv
  injection hv with e1 e2 e3
  subst e1 e3
  exact hr
attribute [irreducible] zsC
end Go.Proofs.YtlhoedpencmikaaGreatDoor
/- Package tlb: Use, Drop, Put. -/
namespace Go.Proofs.YtlhoedpencmikaaGreatDoor
open Go.ChangeShapes Go.WideShapes Go.ChangeAt Go.RowKit
set_option linter.unusedVariables false
set_option linter.unusedSimpArgs false
set_option maxRecDepth 10000

theorem use14p_c (A : Option Addr) (L : List St) (c : Nat) (hL : L.length ≤ 1000) (i v : Nat) (hi : i < L.length) (hv : v < 4) (ht : (sT L i).t < 8) (w : World) (hr : RowV KS w A L c) (hT : Lays w) :
    Calls Tryz.prog 127 #[.agg #[.slice A L.length c], .int .i64 (i : Int), .int .i64 (v : Int)] w (MadeT (useT L i v) w) := by
  have h1 : Blk ((w.alloc (.cells #[.slice A L.length c] 24)).alloc (.cells #[.slice none 0 0] 24)) w.heap.size 24 #[.slice A L.length c] := (Blk.new w _ _).alloc _
  have h2 : Blk ((w.alloc (.cells #[.slice A L.length c] 24)).alloc (.cells #[.slice none 0 0] 24)) (w.heap.size + 1) 24 #[.slice none 0 0] := blk_at (by simp)
  have HE := Lib.hid (((Ext.refl w).alloc (.cells #[.slice A L.length c] 24)).alloc (.cells #[.slice none 0 0] 24))
  obtain ⟨b, off, rfl, hb, hrx⟩ := hr.some (by omega)
  have hrow : ∀ W : World, Ext w W → RowV KS W (some ⟨b, off, none⟩) L c := fun W h => hr.ext h
  have hel : w.rangeAt b (off + i * 45) (stC (sT L i)).toList := by rw [sT_eq]; exact hrx i hi
  have cus := fun w h => use13_c (sT L i) ht v hv w h
  have cwi := fun w h => with14p_c (some ⟨b, off, none⟩) L c hL i hi ⟨(sT L i).ws, toN (sT L i).t v⟩ w h
  rw [show L.set i ⟨(sT L i).ws, toN (sT L i).t v⟩ = useT L i v from useT_eq L i v] at cwi
  have hlen : (useT L i v).length = L.length := by rw [← useT_eq, List.length_set]
  generalize (⟨(sT L i).ws, toN (sT L i).t v⟩ : St) = su at cus cwi
  generalize sT L i = s at hel cus
  have hiz : (i : Int) < (L.length : Int) := by omega
  have cis := fun w => is14_c (some ⟨b, off, none⟩) L.length c (i : Int) (v : Int) w
  rw [show (decide (0 ≤ (i : Int)) && (decide ((i : Int) < (L.length : Int)) && (decide (0 ≤ (v : Int)) && decide ((v : Int) < 4)))) = true by simp; omega] at cis
  clear hr hrx
  go_enter Tryz.func127, Tryz.ntmps127
  go_wp2_with ((refine wpList_load_blk (by rfl) 24 _ rfl rfl h1 Tryz.underlying24 rfl (by kernel_rfl) ?_)); refine (cis _).mono ?_; rintro e w' ⟨rfl, hE⟩; replace h1 := h1.ext hE; replace h2 := h2.ext hE; (replace HE := Lib.hid (HE.out.trans hE))
  clear hE cis
  go_wp2_with fail
  replace h1 := Blk.drew h1; replace h2 := Blk.drew h2; replace HE := Lib.hid HE.out.drew
  refine wp_region_seq [(0, false), (1, false), (2, false), (3, false), (4, false), (5, false), (6, false), (7, false), (8, true), (9, true), (10, true)] (Gap (w.heap.size + 1) (w.heap.size + 2)) (by kernel_rfl) (by kernel_rfl) (Gap.refl _ _) (fun _ _ _ => Gap.trans) ?_; simp only [List.map, nth_z, nth_s]
  refine seq_load rfl rfl (fun x hx => Gap.blk hx (h1) (by omega)) rfl Tryz.underlying24 (by kernel_rfl) (by rfl) ?_; intro K hK; simp only [Act.put, List.setIfInBounds_toArray, List.set_cons_zero, List.set_cons_succ]; refine hK _ ?_; clear hK K
  (repeat ((refine seq_read (by rfl) (by rfl) ?_; intro K hK; go_big_quiet_op; first | go_big_quiet_on | (refine ⟨_, fun _ _ => rfl, ?_⟩; go_big_quiet_on))))
  refine seq_value (.slice (some ⟨b, off, none⟩) L.length c) (by rfl) (fun x hx => by have hq := ((Gap.blk hx (h1) (by omega)).cell 0).trans (rfl); simp [go_sem, execOp, Act.eval, hq]) ?_; intro K hK; simp only [Act.put, List.setIfInBounds_toArray, List.set_cons_zero, List.set_cons_succ]; refine hK _ ?_; clear hK K
  (repeat ((refine seq_read (by rfl) (by rfl) ?_; intro K hK; go_big_quiet_op; first | go_big_quiet_on | (refine ⟨_, fun _ _ => rfl, ?_⟩; go_big_quiet_on))))
  refine seq_load_rng rfl rfl ((fun x hx => rgx_gap hx (rgx_ext HE.out hel) (by omega))) rfl Tryz.underlying69 (st_info _) (by rfl) ?_; intro K hK; simp only [Act.put, List.setIfInBounds_toArray, List.set_cons_zero, List.set_cons_succ]; refine hK _ ?_; clear hK K
  (repeat ((refine seq_read (by rfl) (by rfl) ?_; intro K hK; go_big_quiet_op; (go_big_quiet_on))))
  refine seq_call (cus _ (hT.ext HE.out)) rfl Tryz.func101 (by kernel_rfl) (by kernel_rfl) (by rfl) (by rfl) ?_; intro K hK; rintro e w' ⟨rfl, hE⟩; refine ⟨_, rfl, (Gap.ext hE), ?_⟩; simp only [Act.put, List.setIfInBounds_toArray, List.set_cons_zero, List.set_cons_succ]; refine hK _ _ ?_; clear hK K; replace h1 := h1.ext hE; replace h2 := h2.ext hE; (replace HE := Lib.hid (HE.out.trans hE))
  clear hE
  have l2 := h2.lt
  refine seq_call (cwi _ (hrow _ HE.out)) rfl Tryz.func57 (by kernel_rfl) (by kernel_rfl) (by rfl) (by rfl) ?_; intro K hK; rintro e w' ⟨A2, c2, rfl, hr2, hn2, hE⟩; refine ⟨_, rfl, (Gap.ext hE), ?_⟩; simp only [Act.put, List.setIfInBounds_toArray, List.set_cons_zero, List.set_cons_succ]; refine hK _ _ ?_; clear hK K; replace h1 := h1.ext hE; replace h2 := h2.ext hE; (replace HE := Lib.hid (HE.out.trans hE))
  clear hE
  refine seq_store_row rfl rfl rfl (h2) (by kernel_rfl) (by rfl) (by simp [Value.oneCell']) (by rfl) (Gap.row _ (by omega) (by omega) _) ?_; intro K hK; simp only [Act.put]; refine hK _ _ ?_; clear hK K
  refine seq_done ?_
  go_wp2
  refine bodyPost_ret (results_cell_row rfl _ _ _ _ _ _ _ rfl ((h2.row _)) Tryz.underlying24 rfl (by kernel_rfl)) rfl ?_
  exact ⟨A2, c2, rfl, hr2.row (fun a h => by have := hn2 a h; omega) _, fun a h => by have := hn2 a h; omega, HE.out.row (by omega) _⟩
theorem drop14p_no (A : Option Addr) (n c : Nat) (i v : Int) (hno : ¬ (0 ≤ i ∧ i < n ∧ 0 ≤ v ∧ v ≤ 3)) (w : World) :
    Calls Tryz.prog 34 #[.agg #[.slice A n c], .int .i64 i, .int .i64 v] w fun r w' => r = .returned (.tuple #[.agg #[.slice A n c], .int .i64 1]) ∧ Ext w w' := by
  have h1 : Blk ((w.alloc (.cells #[.slice A n c] 24)).alloc (.cells #[.slice none 0 0] 24)) w.heap.size 24 #[.slice A n c] := (Blk.new w _ _).alloc _
  have h2 : Blk ((w.alloc (.cells #[.slice A n c] 24)).alloc (.cells #[.slice none 0 0] 24)) (w.heap.size + 1) 24 #[.slice none 0 0] := blk_at (by simp)
  have HE := Lib.hid (((Ext.refl w).alloc (.cells #[.slice A n c] 24)).alloc (.cells #[.slice none 0 0] 24))
  have cis := fun w => is14_c A n c i v w
  rw [show (decide (0 ≤ i) && (decide (i < (n : Int)) && (decide (0 ≤ v) && decide (v < 4)))) = false by
    cases h : (decide (0 ≤ i) && (decide (i < (n : Int)) && (decide (0 ≤ v) && decide (v < 4))))
    · rfl
    · simp at h; exact absurd (by omega) hno] at cis
  clear hno
  go_enter Tryz.func34, Tryz.ntmps34
  go_wp2_with ((refine wpList_load_blk (by rfl) 24 _ rfl rfl h1 Tryz.underlying24 rfl (by kernel_rfl) ?_)); refine (cis _).mono ?_; rintro e w' ⟨rfl, hE⟩; (try replace h1 := h1.ext hE); (try replace h2 := h2.ext hE); (try replace HE := Lib.hid (HE.out.trans hE))
  clear hE cis
  go_wp2_with (first | (refine wpList_load_blk (by rfl) 24 _ rfl rfl h1 Tryz.underlying24 rfl (by kernel_rfl) ?_) | (refine wpList_store_row rfl 24 _ _ rfl _ _ rfl rfl _ _ h2 (by kernel_rfl) (by rfl) (by simp [Value.oneCell']) ?_))
  (try simp only [Exit.inBlock, Exit.then]); refine bodyPost_ret (results_c2 rfl _ _ _ _ _ _ rfl ((h2.row _)) rfl Tryz.underlying24 (by kernel_rfl)) rfl ?_
  exact ⟨by first | rfl | simp, HE.out.row (by omega) _⟩
theorem drop14p_c (A : Option Addr) (L : List St) (c : Nat) (hL : L.length ≤ 1000) (i v : Nat) (hi : i < L.length) (hv : v < 4) (w : World) (hr : RowV KS w A L c) (hT : Lays w) :
    Calls Tryz.prog 34 #[.agg #[.slice A L.length c], .int .i64 (i : Int), .int .i64 (v : Int)] w (MadeTI (dropT L i v) 0 w) := by
  have h1 : Blk ((w.alloc (.cells #[.slice A L.length c] 24)).alloc (.cells #[.slice none 0 0] 24)) w.heap.size 24 #[.slice A L.length c] := (Blk.new w _ _).alloc _
  have h2 : Blk ((w.alloc (.cells #[.slice A L.length c] 24)).alloc (.cells #[.slice none 0 0] 24)) (w.heap.size + 1) 24 #[.slice none 0 0] := blk_at (by simp)
  have HE := Lib.hid (((Ext.refl w).alloc (.cells #[.slice A L.length c] 24)).alloc (.cells #[.slice none 0 0] 24))
  obtain ⟨b, off, rfl, hb, hrx⟩ := hr.some (by omega)
  have hrow : ∀ W : World, Ext w W → RowV KS W (some ⟨b, off, none⟩) L c := fun W h => hr.ext h
  have hel : w.rangeAt b (off + i * 45) (stC (sT L i)).toList := by rw [sT_eq]; exact hrx i hi
  have cus := fun w => drop13_c (sT L i) v hv w
  have cwi := fun w h => with14p_c (some ⟨b, off, none⟩) L c hL i hi ((sT L i).put v e0) w h
  rw [dropT_eq L i v] at cwi
  have hlen : (dropT L i v).length = L.length := by rw [← dropT_eq, List.length_set]
  generalize (sT L i).put v e0 = su at cus cwi
  generalize sT L i = s at hel cus
  have hiz : (i : Int) < (L.length : Int) := by omega
  have cis := fun w => is14_c (some ⟨b, off, none⟩) L.length c (i : Int) (v : Int) w
  rw [show (decide (0 ≤ (i : Int)) && (decide ((i : Int) < (L.length : Int)) && (decide (0 ≤ (v : Int)) && decide ((v : Int) < 4)))) = true by simp; omega] at cis
  clear hr hrx
  go_enter Tryz.func34, Tryz.ntmps34
  go_wp2_with ((refine wpList_load_blk (by rfl) 24 _ rfl rfl h1 Tryz.underlying24 rfl (by kernel_rfl) ?_)); refine (cis _).mono ?_; rintro e w' ⟨rfl, hE⟩; (try replace hb := hb.ext hE); (try replace h1 := h1.ext hE); (try replace h2 := h2.ext hE); (try replace HE := Lib.hid (HE.out.trans hE))
  clear hE cis
  go_wp2_with fail
  (try replace hb := Blk.drew hb); (try replace h1 := Blk.drew h1); (try replace h2 := Blk.drew h2); replace HE := Lib.hid HE.out.drew
  refine wp_region_seq [(0, false), (1, false), (2, false), (3, false), (4, false), (5, false), (6, false), (7, false), (8, true), (9, true), (10, true), (11, false)] (Gap (w.heap.size + 1) (w.heap.size + 2)) (by kernel_rfl) (by kernel_rfl) (Gap.refl _ _) (fun _ _ _ => Gap.trans) ?_; simp only [List.map, nth_z, nth_s]
  refine seq_load rfl rfl (fun x hx => Gap.blk hx (h1) (by omega)) rfl Tryz.underlying24 (by kernel_rfl) (by rfl) ?_; intro K hK; simp only [Act.put, List.setIfInBounds_toArray, List.set_cons_zero, List.set_cons_succ]; refine hK _ ?_; clear hK K
  (repeat (first | (refine seq_skip (by rfl) ?_; intro K hK; simp only [Act.put, List.setIfInBounds_toArray, List.set_cons_zero, List.set_cons_succ]; refine hK _ ?_; clear hK K) | (refine seq_skipc (by rfl) ?_; intro K hK; simp only [Act.put, List.setIfInBounds_toArray, List.set_cons_zero, List.set_cons_succ]; refine hK _ ?_; clear hK K) | (refine seq_read (by rfl) (by rfl) ?_; intro K hK; go_big_quiet_op; first | go_big_quiet_on | (refine ⟨_, fun _ _ => rfl, ?_⟩; go_big_quiet_on))))
  refine seq_value (.slice (some ⟨b, off, none⟩) L.length c) (by rfl) (fun x hx => by have hq := ((Gap.blk hx (h1) (by omega)).cell 0).trans (rfl); simp [go_sem, execOp, Act.eval, hq]) ?_; intro K hK; simp only [Act.put, List.setIfInBounds_toArray, List.set_cons_zero, List.set_cons_succ]; refine hK _ ?_; clear hK K
  (repeat (first | (refine seq_skip (by rfl) ?_; intro K hK; simp only [Act.put, List.setIfInBounds_toArray, List.set_cons_zero, List.set_cons_succ]; refine hK _ ?_; clear hK K) | (refine seq_skipc (by rfl) ?_; intro K hK; simp only [Act.put, List.setIfInBounds_toArray, List.set_cons_zero, List.set_cons_succ]; refine hK _ ?_; clear hK K) | (refine seq_read (by rfl) (by rfl) ?_; intro K hK; go_big_quiet_op; first | go_big_quiet_on | (refine ⟨_, fun _ _ => rfl, ?_⟩; go_big_quiet_on))))
  refine seq_load_rng rfl rfl ((fun x hx => rgx_gap hx (rgx_ext HE.out hel) (by omega))) rfl Tryz.underlying69 (st_info _) (by rfl) ?_; intro K hK; simp only [Act.put, List.setIfInBounds_toArray, List.set_cons_zero, List.set_cons_succ]; refine hK _ ?_; clear hK K
  (repeat (first | (refine seq_skip (by rfl) ?_; intro K hK; simp only [Act.put, List.setIfInBounds_toArray, List.set_cons_zero, List.set_cons_succ]; refine hK _ ?_; clear hK K) | (refine seq_skipc (by rfl) ?_; intro K hK; simp only [Act.put, List.setIfInBounds_toArray, List.set_cons_zero, List.set_cons_succ]; refine hK _ ?_; clear hK K) | (refine seq_read (by rfl) (by rfl) ?_; intro K hK; go_big_quiet_op; first | go_big_quiet_on | (refine ⟨_, fun _ _ => rfl, ?_⟩; go_big_quiet_on))))
  refine seq_call (cus _) rfl Tryz.func70 (by kernel_rfl) (by kernel_rfl) (by rfl) (by rfl) ?_; intro K hK; rintro e w' ⟨rfl, hE⟩; refine ⟨_, rfl, (Gap.ext hE), ?_⟩; simp only [Act.put, List.setIfInBounds_toArray, List.set_cons_zero, List.set_cons_succ]; refine hK _ _ ?_; clear hK K; (try replace hb := hb.ext hE); (try replace h1 := h1.ext hE); (try replace h2 := h2.ext hE); (try replace HE := Lib.hid (HE.out.trans hE))
  clear hE
  have l2 := h2.lt
  refine seq_call (cwi _ (hrow _ HE.out)) rfl Tryz.func57 (by kernel_rfl) (by kernel_rfl) (by rfl) (by rfl) ?_; intro K hK; rintro e w' ⟨A2, c2, rfl, hr2, hn2, hE⟩; refine ⟨_, rfl, (Gap.ext hE), ?_⟩; simp only [Act.put, List.setIfInBounds_toArray, List.set_cons_zero, List.set_cons_succ]; refine hK _ _ ?_; clear hK K; (try replace hb := hb.ext hE); (try replace h1 := h1.ext hE); (try replace h2 := h2.ext hE); (try replace HE := Lib.hid (HE.out.trans hE))
  clear hE
  refine seq_store_row rfl rfl rfl (h2) (by kernel_rfl) (by rfl) (by simp [Value.oneCell']) (by rfl) (Gap.row _ (by omega) (by omega) _) ?_; intro K hK; simp only [Act.put, List.setIfInBounds_toArray, List.set_cons_zero, List.set_cons_succ]; refine hK _ _ ?_; clear hK K
  (repeat (first | (refine seq_skip (by rfl) ?_; intro K hK; simp only [Act.put, List.setIfInBounds_toArray, List.set_cons_zero, List.set_cons_succ]; refine hK _ ?_; clear hK K) | (refine seq_skipc (by rfl) ?_; intro K hK; simp only [Act.put, List.setIfInBounds_toArray, List.set_cons_zero, List.set_cons_succ]; refine hK _ ?_; clear hK K) | (refine seq_read (by rfl) (by rfl) ?_; intro K hK; go_big_quiet_op; first | go_big_quiet_on | (refine ⟨_, fun _ _ => rfl, ?_⟩; go_big_quiet_on))))
  refine seq_done ?_
  go_wp2
  (try simp only [Exit.inBlock, Exit.then]); refine bodyPost_ret (results_c2 rfl _ _ _ _ _ _ rfl ((h2.row _)) rfl Tryz.underlying24 (by kernel_rfl)) rfl ?_
  exact ⟨A2, c2, by first | rfl | simp, hr2.row (fun a h => by have := hn2 a h; omega) _, fun a h => by have := hn2 a h; omega, HE.out.row (by omega) _⟩
theorem put14p_nil (A : Option Addr) (c : Nat) (e : En) (v : Int) (w : World) :
    Calls Tryz.prog 28 #[.agg #[.slice A 0 c], .agg (enC e), .int .i64 v] w fun r w' => r = .returned (.agg #[.slice A 0 c]) ∧ Ext w w' := by
  have h1 : Blk (((w.alloc (.cells #[.slice A 0 c] 24)).alloc (.cells (enC e) 66)).alloc (.cells #[.slice none 0 0] 24)) w.heap.size 24 #[.slice A 0 c] := ((Blk.new w _ _).alloc _).alloc _
  have h2 : Blk (((w.alloc (.cells #[.slice A 0 c] 24)).alloc (.cells (enC e) 66)).alloc (.cells #[.slice none 0 0] 24)) (w.heap.size + 2) 24 #[.slice none 0 0] := blk_at (by simp)
  have HE := Lib.hid ((((Ext.refl w).alloc (.cells #[.slice A 0 c] 24)).alloc (.cells (enC e) 66)).alloc (.cells #[.slice none 0 0] 24))
  go_enter Tryz.func28, Tryz.ntmps28
  go_wp2_with (first | (refine wpList_load_blk (by rfl) 24 _ rfl rfl h1 Tryz.underlying24 rfl (by kernel_rfl) ?_) | (refine wpList_store_row rfl 24 _ _ rfl _ _ rfl rfl _ _ h2 (by kernel_rfl) (by rfl) (by simp [Value.oneCell']) ?_))
  refine bodyPost_ret (results_cell_row rfl _ _ _ _ _ _ _ rfl ((h2.row _)) Tryz.underlying24 rfl (by kernel_rfl)) rfl ?_
  exact ⟨by (rfl), HE.out.row (by omega) _⟩
set_option maxHeartbeats 1000000 in
theorem put14p_c (A : Option Addr) (L : List St) (c : Nat) (hL : L.length ≤ 1000) (hp : 0 < L.length) (e : En) (v : Int) (l0 : 0 ≤ e.l) (l2 : e.l ≤ 2) (e1 : e.vp < 18446744073709551616) (ht : (sT L (ixT L.length e.vp e.l)).t < 8) (w : World) (hr : RowV KS w A L c) (hT : Lays w) :
    Calls Tryz.prog 28 #[.agg #[.slice A L.length c], .agg (enC e), .int .i64 v] w (MadeT (putT e v L) w) := by
  obtain ⟨b, off, rfl, hb, hrx⟩ := hr.some hp
  have h1 : Blk (((w.alloc (.cells #[.slice (some ⟨b, off, none⟩) L.length c] 24)).alloc (.cells (enC e) 66)).alloc (.cells #[.slice none 0 0] 24)) w.heap.size 24 #[.slice (some ⟨b, off, none⟩) L.length c] := ((Blk.new w _ _).alloc _).alloc _
  have h2 : Blk (((w.alloc (.cells #[.slice (some ⟨b, off, none⟩) L.length c] 24)).alloc (.cells (enC e) 66)).alloc (.cells #[.slice none 0 0] 24)) (w.heap.size + 1) 66 (enC e) := (blk_at (by simp)).alloc _
  have h3 : Blk (((w.alloc (.cells #[.slice (some ⟨b, off, none⟩) L.length c] 24)).alloc (.cells (enC e) 66)).alloc (.cells #[.slice none 0 0] 24)) (w.heap.size + 2) 24 #[.slice none 0 0] := blk_at (by simp)
  have HE := Lib.hid ((((Ext.refl w).alloc (.cells #[.slice (some ⟨b, off, none⟩) L.length c] 24)).alloc (.cells (enC e) 66)).alloc (.cells #[.slice none 0 0] 24))
  have hx := ix_lt hp (e.vp : Int) e.l
  have cix := fun w => home14_c e l0 l2 e1 L.length hp (by omega) w
  have cpt := fun w h => put13_c (sT L (ixT L.length e.vp e.l)) ht e v w h
  have cwi := fun w h => with14p_c (some ⟨b, off, none⟩) L c hL (ixT L.length e.vp e.l) hx (putS e v (sT L (ixT L.length e.vp e.l))) w h
  rw [← putT_pos hp] at cwi
  have hlen := putT_len e v L
  have hrow : ∀ W : World, Ext w W → RowV KS W (some ⟨b, off, none⟩) L c := fun W h => hr.ext h
  have hel : w.rangeAt b (off + ixT L.length e.vp e.l * 45) (stC (sT L (ixT L.length e.vp e.l))).toList := by rw [sT_eq]; exact hrx _ hx
  generalize wayS e v (sT L (ixT L.length e.vp e.l)) = j at cpt
  generalize putS e v (sT L (ixT L.length e.vp e.l)) = su at cpt cwi
  generalize sT L (ixT L.length e.vp e.l) = s at hel cpt
  generalize ixT L.length e.vp e.l = i at *
  generalize putT e v L = M at *
  have hiz : (i : Int) < (L.length : Int) := by omega
  have h0 : ((L.length : Int) == 0) = false := by rw [beq_eq_false_iff_ne]; omega
  have x3 := h2.en_l
  have x4 := h2.en_vp
  clear hr hrx ht
  go_enter Tryz.func28, Tryz.ntmps28
  go_wp2_with (refine wpList_load_blk (by rfl) 66 _ rfl rfl h2 Tryz.underlying66 rfl (by kernel_rfl) ?_)
  refine (cix _).mono ?_
  rintro r1 W0 ⟨rfl, hE⟩
  replace h1 := h1.ext hE; replace h2 := h2.ext hE; replace h3 := h3.ext hE; (replace HE := Lib.hid (HE.out.trans hE))
  clear hE cix x3 x4
  go_wp2_with fail
  replace h1 := Blk.drew h1
  replace h2 := Blk.drew h2
  replace h3 := Blk.drew h3
  replace HE := Lib.hid HE.out.drew
  refine wp_region_fork [(0, false), (1, false), (2, false), (3, false), (4, false), (5, false), (6, false)] 7 [(8, false), (9, false), (10, false), (11, true), (12, true), (13, false)] 11 [(7, true), (8, false), (9, false), (10, false), (12, true), (13, false)] (Below W0.drew.heap.size) (by kernel_rfl) (by kernel_rfl) (Below.refl _) (fun _ _ _ => Below.trans) ?_
  simp only [List.map, nth_z, nth_s]
  have hs0 : W0.drew.heap.size ≤ W0.drew.heap.size := Nat.le_refl _
  have q1 := h1.lt
  have q2 := h2.lt
  have q3 := h3.lt
  have hbB : b < W0.drew.heap.size := by omega
  generalize hBB : W0.drew.heap.size = B at q1 q2 q3 hs0 hbB ⊢
  rw [← hBB] at hs0
  generalize W0.drew = wd at *
  rw [hBB] at hs0
  replace hs0 : B ≤ wd.heap.size := by omega
  clear hBB
  apply cut_frk (fun g W => Blk W w.heap.size 24 #[.slice (some ⟨b, off, none⟩) L.length c] ∧ Blk W (w.heap.size + 2) 24 #[.slice none 0 0] ∧ Blk W g 69 (stC su) ∧ w.heap.size + 2 < g ∧ Ext w W)
  case h =>
    intro key
    (repeat ((refine seq_read (by rfl) (by rfl) ?_; intro K hK; go_big_quiet_op; (refine ⟨_, fun _ _ => rfl, ?_⟩; go_big_quiet_on))))
    refine seq_value ((.slice (some ⟨b, off, none⟩) L.length c)) (by rfl) (fun x hx => by have hq := (Below.cell hx (p := ⟨w.heap.size, 0, none⟩) (by simp; omega)).trans ((h1.cell 0).trans rfl); simp [go_sem, execOp, Act.eval, hq]) ?_; intro K hK; simp only [Act.put, List.setIfInBounds_toArray, List.set_cons_zero, List.set_cons_succ]; refine hK _ ?_; clear hK K
    (repeat ((refine seq_read (by rfl) (by rfl) ?_; intro K hK; go_big_quiet_op; first | go_big_quiet_on | (refine ⟨_, fun _ _ => rfl, ?_⟩; go_big_quiet_on))))
    refine seq_load_rng rfl rfl ((fun x hx => rgx_below hx hbB (rgx_ext HE.out hel))) rfl Tryz.underlying69 (st_info _) (by rfl) ?_; intro K hK; simp only [Act.put, List.setIfInBounds_toArray, List.set_cons_zero, List.set_cons_succ]; refine hK _ ?_; clear hK K
    refine seq_load rfl rfl (fun x hx => Blk.lower (h2) hx (by omega)) rfl Tryz.underlying66 (by kernel_rfl) (by rfl) ?_; intro K hK; simp only [Act.put, List.setIfInBounds_toArray, List.set_cons_zero, List.set_cons_succ]; refine hK _ ?_; clear hK K
    (repeat ((refine seq_read (by rfl) (by rfl) ?_; intro K hK; go_big_quiet_op; (go_big_quiet_on))))
    refine seq_done ?_
    refine ⟨?_, ?_⟩
    · skip
      refine seq_call (cpt _ (hT.ext HE.out)) rfl Tryz.func56 (by kernel_rfl) (by kernel_rfl) (by rfl) (by rfl) ?_; intro K hK; rintro e w' ⟨rfl, hE⟩; refine ⟨_, rfl, (Below.mono hE hs0), ?_⟩; simp only [Act.put, List.setIfInBounds_toArray, List.set_cons_zero, List.set_cons_succ]; refine hK _ _ ?_; clear hK K
      replace h1 := h1.ext hE
      replace h2 := h2.ext hE
      replace h3 := h3.ext hE
      replace HE := Lib.hid (HE.out.trans hE)
      replace hs0 := Nat.le_trans hs0 hE.size
      skip
      clear hE
      (repeat ((refine seq_read (by rfl) (by rfl) ?_; intro K hK; go_big_quiet_op; first | go_big_quiet_on | (refine ⟨_, fun _ _ => rfl, ?_⟩; go_big_quiet_on))))
      have hn := Blk.new w' 69 #[.bool false, .int .u64 0, .bool false, .int .i64 0, .int .u64 0, .int .u64 0, .bool false, .bool false, .bool false, .bool false, .bool false, .bool false, .int .u64 0, .bool false, .int .i64 0, .int .u64 0, .int .u64 0, .bool false, .bool false, .bool false, .bool false, .bool false, .bool false, .int .u64 0, .bool false, .int .i64 0, .int .u64 0, .int .u64 0, .bool false, .bool false, .bool false, .bool false, .bool false, .bool false, .int .u64 0, .bool false, .int .i64 0, .int .u64 0, .int .u64 0, .bool false, .bool false, .bool false, .bool false, .bool false, .int .u8 0]
      have hgB : B ≤ w'.heap.size := hs0
      refine seq_run (.pointer (some ⟨w'.heap.size, 0, none⟩)) (w'.alloc (.cells #[.bool false, .int .u64 0, .bool false, .int .i64 0, .int .u64 0, .int .u64 0, .bool false, .bool false, .bool false, .bool false, .bool false, .bool false, .int .u64 0, .bool false, .int .i64 0, .int .u64 0, .int .u64 0, .bool false, .bool false, .bool false, .bool false, .bool false, .bool false, .int .u64 0, .bool false, .int .i64 0, .int .u64 0, .int .u64 0, .bool false, .bool false, .bool false, .bool false, .bool false, .bool false, .int .u64 0, .bool false, .int .i64 0, .int .u64 0, .int .u64 0, .bool false, .bool false, .bool false, .bool false, .bool false, .int .u8 0] 69)) (by rfl) ?_ ((Below.refl _ _).alloc hs0 _) ?_; (simp [go_sem, execOp]); intro K hK; simp only [Act.put, List.setIfInBounds_toArray, List.set_cons_zero, List.set_cons_succ]; refine hK _ _ ?_; clear hK K
      have hE := (Ext.refl w').alloc (.cells #[.bool false, .int .u64 0, .bool false, .int .i64 0, .int .u64 0, .int .u64 0, .bool false, .bool false, .bool false, .bool false, .bool false, .bool false, .int .u64 0, .bool false, .int .i64 0, .int .u64 0, .int .u64 0, .bool false, .bool false, .bool false, .bool false, .bool false, .bool false, .int .u64 0, .bool false, .int .i64 0, .int .u64 0, .int .u64 0, .bool false, .bool false, .bool false, .bool false, .bool false, .bool false, .int .u64 0, .bool false, .int .i64 0, .int .u64 0, .int .u64 0, .bool false, .bool false, .bool false, .bool false, .bool false, .int .u8 0] 69)
      have hgw : w.heap.size ≤ w'.heap.size := HE.out.size
      replace h1 := h1.ext hE
      replace h2 := h2.ext hE
      replace h3 := h3.ext hE
      replace HE := Lib.hid (HE.out.trans hE)
      replace hs0 := Nat.le_trans hs0 hE.size
      clear hE
      generalize w'.alloc (.cells #[.bool false, .int .u64 0, .bool false, .int .i64 0, .int .u64 0, .int .u64 0, .bool false, .bool false, .bool false, .bool false, .bool false, .bool false, .int .u64 0, .bool false, .int .i64 0, .int .u64 0, .int .u64 0, .bool false, .bool false, .bool false, .bool false, .bool false, .bool false, .int .u64 0, .bool false, .int .i64 0, .int .u64 0, .int .u64 0, .bool false, .bool false, .bool false, .bool false, .bool false, .bool false, .int .u64 0, .bool false, .int .i64 0, .int .u64 0, .int .u64 0, .bool false, .bool false, .bool false, .bool false, .bool false, .int .u8 0] 69) = WA at *
      generalize w'.heap.size = gq at *
      skip
      refine seq_store_row rfl rfl rfl (hn) (st_info _) (by simp [stC_size]) (stC_one _) (by rfl) ((below_row (Below.refl _ _) hgB _)) ?_; intro K hK; simp only [Act.put]; refine hK _ _ ?_; clear hK K
      (repeat ((refine seq_read (by rfl) (by rfl) ?_; intro K hK; go_big_quiet_op; (go_big_quiet_on))))
      refine seq_done ?_
      have hm := hn.row (stC su)
      replace h1 := h1.apart (k := gq) (by omega) (stC su)
      replace h2 := h2.apart (k := gq) (by omega) (stC su)
      replace h3 := h3.apart (k := gq) (by omega) (stC su)
      replace HE := Lib.hid (Ext.row HE.out hgw (stC su))
      generalize WA.setRow gq (stC su) = WF at *
      exact key gq WF ⟨h1, h3, hm, (by omega), HE.out⟩
    · skip
      have hn := Blk.new wd 69 #[.bool false, .int .u64 0, .bool false, .int .i64 0, .int .u64 0, .int .u64 0, .bool false, .bool false, .bool false, .bool false, .bool false, .bool false, .int .u64 0, .bool false, .int .i64 0, .int .u64 0, .int .u64 0, .bool false, .bool false, .bool false, .bool false, .bool false, .bool false, .int .u64 0, .bool false, .int .i64 0, .int .u64 0, .int .u64 0, .bool false, .bool false, .bool false, .bool false, .bool false, .bool false, .int .u64 0, .bool false, .int .i64 0, .int .u64 0, .int .u64 0, .bool false, .bool false, .bool false, .bool false, .bool false, .int .u8 0]
      have hgB : B ≤ wd.heap.size := hs0
      refine seq_run (.pointer (some ⟨wd.heap.size, 0, none⟩)) (wd.alloc (.cells #[.bool false, .int .u64 0, .bool false, .int .i64 0, .int .u64 0, .int .u64 0, .bool false, .bool false, .bool false, .bool false, .bool false, .bool false, .int .u64 0, .bool false, .int .i64 0, .int .u64 0, .int .u64 0, .bool false, .bool false, .bool false, .bool false, .bool false, .bool false, .int .u64 0, .bool false, .int .i64 0, .int .u64 0, .int .u64 0, .bool false, .bool false, .bool false, .bool false, .bool false, .bool false, .int .u64 0, .bool false, .int .i64 0, .int .u64 0, .int .u64 0, .bool false, .bool false, .bool false, .bool false, .bool false, .int .u8 0] 69)) (by rfl) ?_ ((Below.refl _ _).alloc hs0 _) ?_; (simp [go_sem, execOp]); intro K hK; simp only [Act.put, List.setIfInBounds_toArray, List.set_cons_zero, List.set_cons_succ]; refine hK _ _ ?_; clear hK K
      have hE := (Ext.refl wd).alloc (.cells #[.bool false, .int .u64 0, .bool false, .int .i64 0, .int .u64 0, .int .u64 0, .bool false, .bool false, .bool false, .bool false, .bool false, .bool false, .int .u64 0, .bool false, .int .i64 0, .int .u64 0, .int .u64 0, .bool false, .bool false, .bool false, .bool false, .bool false, .bool false, .int .u64 0, .bool false, .int .i64 0, .int .u64 0, .int .u64 0, .bool false, .bool false, .bool false, .bool false, .bool false, .bool false, .int .u64 0, .bool false, .int .i64 0, .int .u64 0, .int .u64 0, .bool false, .bool false, .bool false, .bool false, .bool false, .int .u8 0] 69)
      have hgw : w.heap.size ≤ wd.heap.size := HE.out.size
      replace h1 := h1.ext hE
      replace h2 := h2.ext hE
      replace h3 := h3.ext hE
      replace HE := Lib.hid (HE.out.trans hE)
      replace hs0 := Nat.le_trans hs0 hE.size
      clear hE
      generalize wd.alloc (.cells #[.bool false, .int .u64 0, .bool false, .int .i64 0, .int .u64 0, .int .u64 0, .bool false, .bool false, .bool false, .bool false, .bool false, .bool false, .int .u64 0, .bool false, .int .i64 0, .int .u64 0, .int .u64 0, .bool false, .bool false, .bool false, .bool false, .bool false, .bool false, .int .u64 0, .bool false, .int .i64 0, .int .u64 0, .int .u64 0, .bool false, .bool false, .bool false, .bool false, .bool false, .bool false, .int .u64 0, .bool false, .int .i64 0, .int .u64 0, .int .u64 0, .bool false, .bool false, .bool false, .bool false, .bool false, .int .u8 0] 69) = WA at *
      generalize wd.heap.size = gq at *
      refine seq_call (cpt _ (hT.ext HE.out)) rfl Tryz.func56 (by kernel_rfl) (by kernel_rfl) (by rfl) (by rfl) ?_; intro K hK; rintro e w' ⟨rfl, hE⟩; refine ⟨_, rfl, (Below.mono hE hs0), ?_⟩; simp only [Act.put, List.setIfInBounds_toArray, List.set_cons_zero, List.set_cons_succ]; refine hK _ _ ?_; clear hK K
      replace h1 := h1.ext hE
      replace h2 := h2.ext hE
      replace h3 := h3.ext hE
      replace HE := Lib.hid (HE.out.trans hE)
      replace hs0 := Nat.le_trans hs0 hE.size
      replace hn := hn.ext hE
      clear hE
      (repeat ((refine seq_read (by rfl) (by rfl) ?_; intro K hK; go_big_quiet_op; first | go_big_quiet_on | (refine ⟨_, fun _ _ => rfl, ?_⟩; go_big_quiet_on))))
      refine seq_store_row rfl rfl rfl (hn) (st_info _) (by simp [stC_size]) (stC_one _) (by rfl) ((below_row (Below.refl _ _) hgB _)) ?_; intro K hK; simp only [Act.put]; refine hK _ _ ?_; clear hK K
      (repeat ((refine seq_read (by rfl) (by rfl) ?_; intro K hK; go_big_quiet_op; (go_big_quiet_on))))
      refine seq_done ?_
      have hm := hn.row (stC su)
      replace h1 := h1.apart (k := gq) (by omega) (stC su)
      replace h2 := h2.apart (k := gq) (by omega) (stC su)
      replace h3 := h3.apart (k := gq) (by omega) (stC su)
      replace HE := Lib.hid (Ext.row HE.out hgw (stC su))
      generalize w'.setRow gq (stC su) = WF at *
      exact key gq WF ⟨h1, h3, hm, (by omega), HE.out⟩
  intro g4 WN hkk
  clear h1 h2 h3 HE q1 q2 q3 hbB hs0 cpt hel
  obtain ⟨h1, h3, h4, d34, hE⟩ := hkk
  have HE := Lib.hid hE
  clear hE
  go_wp2_with (first | (refine wpList_load_blk (by rfl) 24 _ rfl rfl h1 Tryz.underlying24 rfl (by kernel_rfl) ?_) | (refine wpList_load_blk (by rfl) 69 _ rfl rfl h4 Tryz.underlying69 rfl (by kernel_rfl) ?_))
  refine (cwi _ (hrow _ HE.out)).mono ?_
  rintro e2 w2 ⟨A2, c2, rfl, hr2, hn2, hE⟩
  have q3 := h3.lt
  replace h3 := h3.ext hE
  replace HE := Lib.hid (HE.out.trans hE)
  clear hE h1 h4
  go_wp2_with (refine wpList_store_row rfl 24 _ _ rfl _ _ rfl rfl _ _ h3 (by kernel_rfl) (by rfl) (by simp [Value.oneCell']) ?_)
  refine bodyPost_ret (results_cell_row rfl _ _ _ _ _ _ _ rfl ((h3.row _)) Tryz.underlying24 rfl (by kernel_rfl)) rfl ?_
  exact ⟨A2, c2, by (simp [hlen]), hr2.row (fun a h => by have := hn2 a h; omega) _, fun a h => by have := hn2 a h; omega, HE.out.row (by omega) _⟩
end Go.Proofs.YtlhoedpencmikaaGreatDoor
/- Package tlb: Find, All. -/
namespace Go.Proofs.YtlhoedpencmikaaGreatDoor
open Go.ChangeShapes Go.WideShapes Go.ChangeAt Go.RowKit
set_option linter.unusedVariables false
set_option linter.unusedSimpArgs false
set_option maxRecDepth 10000
attribute [local irreducible] World.setRow World.alloc Blk

/-- a leaf of which the level alone is told -/
def lf0 (l : Int) : Lf := ⟨l, 0, ⟨false, false, false, false, false, false, false, false, 0, 0, 0⟩⟩
theorem lf0_lv (l : Int) : (lf0 l).lv = l := rfl
theorem lf0_build (l : Int) : Tryz.prog.built 75 [(0, .int .i64 l)] = some (lfC (lf0 l)) := by
  unfold lf0
  rw [lfC_def, ptC_def]
  kernel_rfl
theorem of_ix {l : Int} (l0 : 0 ≤ l) (l2 : l ≤ 2) (a n m : Nat) : ixT m ((ofE (lf0 l) a n).vp : Int) (ofE (lf0 l) a n).l = ixT m (numI a) l := by
  obtain ⟨-, h2, -, -, -, h6⟩ := ofE_v (lf0 l) a n
  rw [h2, h6, lf0_lv, nb_eq l0 l2]
  unfold ixT
  have hd : (numI (a : Int) - numI (a : Int) % pagI l) / pagI l = numI (a : Int) / pagI l := by
    rcases pag_is l0 l2 with ⟨_, h⟩ | ⟨_, h⟩ | ⟨_, h⟩ <;> rw [h] <;> omega
  rw [hd]
attribute [irreducible] lf0
set_option maxRecDepth 100000 in
set_option maxHeartbeats 2000000 in
theorem find14_c (A : Option Addr) (L : List St) (c : Nat) (hL : L.length ≤ 9223372036854775807) (hrt : rightT L = true) (n a : Nat) (n1 : n < 18446744073709551616) (ha : vaB a = true) (a1 : a < 18446744073709551616) (w : World) (hr : RowV KS w A L c) (hT : Lays w) :
    Calls Tryz.prog 125 #[.agg #[.slice A L.length c], .int .u64 (n : Int), .int .u64 (a : Int)] w fun r w' => r = FoundT n a L ∧ Ext w w' := by
  have h1 : Blk ((w.alloc (.cells #[.slice A L.length c] 24)).alloc (.cells #[.bool false, .int .u64 0, .bool false, .int .i64 0, .int .u64 0, .int .u64 0, .bool false, .bool false, .bool false, .bool false, .bool false] 66)) w.heap.size 24 #[.slice A L.length c] := (Blk.new w _ _).alloc _
  have h2 : Blk ((w.alloc (.cells #[.slice A L.length c] 24)).alloc (.cells #[.bool false, .int .u64 0, .bool false, .int .i64 0, .int .u64 0, .int .u64 0, .bool false, .bool false, .bool false, .bool false, .bool false] 66)) (w.heap.size + 1) 66 #[.bool false, .int .u64 0, .bool false, .int .i64 0, .int .u64 0, .int .u64 0, .bool false, .bool false, .bool false, .bool false, .bool false] := blk_at (by simp)
  have HE := Lib.hid (((Ext.refl w).alloc (.cells #[.slice A L.length c] 24)).alloc (.cells #[.bool false, .int .u64 0, .bool false, .int .i64 0, .int .u64 0, .int .u64 0, .bool false, .bool false, .bool false, .bool false, .bool false] 66))
  have hrow : ∀ W : World, Ext w W → RowV KS W A L c := fun W h => hr.ext h
  clear hr
  obtain ⟨m0, m1⟩ := num_lt (a : Int)
  have x1 : ((w.alloc (.cells #[.slice A L.length c] 24)).alloc (.cells #[.bool false, .int .u64 0, .bool false, .int .i64 0, .int .u64 0, .int .u64 0, .bool false, .bool false, .bool false, .bool false, .bool false] 66)).cell? ⟨w.heap.size, 0, none⟩ = some (.slice A L.length c) := (h1.cell 0).trans rfl
  rcases Nat.eq_zero_or_pos L.length with hp | hp
  · have hno := find_no (n := n) (a := a) (L := L) (.inl (by omega))
    have HZ := Lib.hid (foundT_eq hno.2.2.2 hno.2.1 hno.2.2.1 hno.1)
    have h0 : ((L.length : Int) == 0) = true := by rw [beq_iff_eq]; omega
    clear hno hrow hp
    go_enter Tryz.func125, Tryz.ntmps125
    go_wp2_with (first | (refine wpList_build_as (by rfl) rfl (e0_build) ?_) | (refine wpList_store_blk rfl 66 _ _ rfl rfl rfl h2 (en_info _) (by simp [enC_size]) (enC_one _) ?_))
    (try simp only [Exit.inBlock, Exit.then]); (try rw [Exit.noGoto_ret]); refine bodyPost_ret (results_c4 rfl _ _ _ _ _ _ rfl ((h2.row _)) rfl Tryz.underlying66 (en_info _)) rfl ?_
    exact ⟨by rw [HZ.out]; first | rfl | simp, HE.out.row (by omega) _⟩
  have h0 : ((L.length : Int) == 0) = false := by rw [beq_eq_false_iff_ne]; omega
  go_enter Tryz.func125, Tryz.ntmps125
  go_wp2
  clear x1
  go_loopw [19] (fun i wr => ∃ k : Nat, k ≤ 3 ∧ i = .int .i64 k ∧ Hid (∀ j, j < k → lvT n a L j = false) ∧ Blk wr w.heap.size 24 #[.slice A L.length c] ∧ Blk wr (w.heap.size + 1) 66 #[.bool false, .int .u64 0, .bool false, .int .i64 0, .int .u64 0, .int .u64 0, .bool false, .bool false, .bool false, .bool false, .bool false] ∧ Ext w wr) (fun i _ => (3 - intOf i).toNat)
  case atStart => exact ⟨0, by omega, rfl, Lib.hid (fun j hj => absurd hj (by omega)), h1, h2, HE.out⟩
  case round =>
    clear h1 h2 HE
    obtain ⟨k, hk, rfl, I, h1, h2, hE⟩ := hrel
    have HE := Lib.hid hE
    clear hE
    by_cases hlt : k < 3
    · have hkz : (k : Int) < 3 := by omega
      have hx := ix_lt hp (numI (a : Int)) (k : Int)
      have cof := fun w h => of12_c (lf0 (k : Int)) (by rw [lf0_lv]; omega) (by rw [lf0_lv]; omega) a n a1 w h
      have hoe := ofE_v (lf0 (k : Int)) a n
      rw [lf0_lv] at hoe
      have cho := fun w => home14_c (ofE (lf0 (k : Int)) a n) (by rw [hoe.2.1]; omega) (by rw [hoe.2.1]; omega) (by have := nb_lt (a : Int) (k : Int); have := hoe.2.2.2.2.2; omega) L.length hp hL w
      rw [of_ix (by omega) (by omega)] at cho
      have cfi := fun w h => find13_c (sT L (ixT L.length (numI (a : Int)) (k : Int))) (fun u hu hv => have k := may_v (rt_may hrt hx hu) hv; ⟨k.l0, k.l2⟩) (n : Int) (a : Int) (k : Int) (by omega) (by omega) (by omega) (by omega) w h
      have hw := fi_lt (hitE n a (k : Int)) (sT L (ixT L.length (numI (a : Int)) (k : Int))).ws
      rw [lv_eq] at cfi
      have hat := find_at (n := n) (a := a) hp hlt I.out
      have IK : lvT n a L k = false → Hid (∀ j, j < k + 1 → lvT n a L j = false) := fun h => Lib.hid fun j hj => by
        rcases Nat.lt_or_ge j k with h1 | h1
        · exact I.out j h1
        · obtain rfl : j = k := by omega
          exact h
      obtain ⟨b, off, rfl, hb, hrx⟩ := (hrow _ HE.out).some hp
      have e1 : wr.rangeAt b (off + ixT L.length (numI (a : Int)) (k : Int) * 45) (stC (sT L (ixT L.length (numI (a : Int)) (k : Int)))).toList := by rw [sT_eq]; exact hrx _ hx
      have e2 := rng_way e1 hw
      have hlb := lf0_build (k : Int)
      clear I hk hrx hrow hlt hoe
      generalize ofE (lf0 (k : Int)) a n = eo at *
      generalize lf0 (k : Int) = lo at *
      generalize ixT L.length (numI (a : Int)) (k : Int) = x at *
      generalize fiW (hitE n a (k : Int)) (sT L x).ws = y at *
      generalize (sT L x).ws.at y = f at *
      generalize sT L x = s at *
      generalize lvT n a L k = B at *
      generalize numI (a : Int) = nu at *
      have hxz : (x : Int) < (L.length : Int) := by omega
      have hyz : (y : Int) < 4 := by omega
      go_wp2_with fail
      replace h1 := Blk.drew h1
      replace h2 := Blk.drew h2
      replace e1 := rgx_ext (Ext.refl _).drew e1
      replace e2 := rgx_ext (Ext.refl _).drew e2
      replace HE := Lib.hid HE.out.drew
      refine wp_region_seq [(0, false), (1, false), (2, false), (3, false), (5, false), (6, false), (7, false), (4, true), (8, true), (9, false)] Ext (by kernel_rfl) (by kernel_rfl) Ext.refl (fun _ _ _ => Ext.trans) ?_; simp only [List.map, nth_z, nth_s]
      (try simp only [Act.put, List.setIfInBounds_toArray, List.set_cons_zero, List.set_cons_succ])
      (repeat (first | (refine seq_skip (by rfl) ?_; intro K hK; simp only [Act.put, List.setIfInBounds_toArray, List.set_cons_zero, List.set_cons_succ]; refine hK _ ?_; clear hK K) | (refine seq_skipc (by rfl) ?_; intro K hK; simp only [Act.put, List.setIfInBounds_toArray, List.set_cons_zero, List.set_cons_succ]; refine hK _ ?_; clear hK K) | (refine seq_read (by rfl) (by rfl) ?_; intro K hK; go_big_quiet_op; first | go_big_quiet_on | (refine ⟨_, fun _ _ => rfl, ?_⟩; go_big_quiet_on))))
      refine seq_build_as rfl (hlb) (by rfl) ?_; intro K hK; simp only [Act.put, List.setIfInBounds_toArray, List.set_cons_zero, List.set_cons_succ]; refine hK _ ?_; clear hK K
      (repeat (first | (refine seq_skip (by rfl) ?_; intro K hK; simp only [Act.put, List.setIfInBounds_toArray, List.set_cons_zero, List.set_cons_succ]; refine hK _ ?_; clear hK K) | (refine seq_skipc (by rfl) ?_; intro K hK; simp only [Act.put, List.setIfInBounds_toArray, List.set_cons_zero, List.set_cons_succ]; refine hK _ ?_; clear hK K) | (refine seq_read (by rfl) (by rfl) ?_; intro K hK; go_big_quiet_op; first | go_big_quiet_on | (refine ⟨_, fun _ _ => rfl, ?_⟩; go_big_quiet_on))))
      refine seq_value ((.slice (some ⟨b, off, none⟩) L.length c)) (by rfl) (fun x hx => by have hq := ext_cell hx ((h1.cell 0).trans rfl); simp [go_sem, execOp, Act.eval, hq]) ?_; intro K hK; simp only [Act.put, List.setIfInBounds_toArray, List.set_cons_zero, List.set_cons_succ]; refine hK _ ?_; clear hK K
      (repeat (first | (refine seq_skip (by rfl) ?_; intro K hK; simp only [Act.put, List.setIfInBounds_toArray, List.set_cons_zero, List.set_cons_succ]; refine hK _ ?_; clear hK K) | (refine seq_skipc (by rfl) ?_; intro K hK; simp only [Act.put, List.setIfInBounds_toArray, List.set_cons_zero, List.set_cons_succ]; refine hK _ ?_; clear hK K) | (refine seq_read (by rfl) (by rfl) ?_; intro K hK; go_big_quiet_op; first | go_big_quiet_on | (refine ⟨_, fun _ _ => rfl, ?_⟩; go_big_quiet_on))))
      refine seq_call (cof _ (hT.ext HE.out).1) rfl Tryz.func29 (by kernel_rfl) (by kernel_rfl) (by rfl) (by rfl) ?_; intro K hK; rintro e w' ⟨rfl, hE⟩; refine ⟨_, rfl, hE, ?_⟩; simp only [Act.put, List.setIfInBounds_toArray, List.set_cons_zero, List.set_cons_succ]; refine hK _ _ ?_; clear hK K; (try replace hb := hb.ext hE); (try replace h1 := h1.ext hE); (try replace h2 := h2.ext hE); (try replace k1 := k1.ext hE); (try replace k2 := k2.ext hE); (try replace k3 := k3.ext hE); (try replace k4 := k4.ext hE); (try replace HE := Lib.hid (HE.out.trans hE))
      replace e1 := rgx_ext hE e1
      replace e2 := rgx_ext hE e2
      clear hE cof
      refine seq_call (cho _) rfl Tryz.func55 (by kernel_rfl) (by kernel_rfl) (by rfl) (by rfl) ?_; intro K hK; rintro e w' ⟨rfl, hE⟩; refine ⟨_, rfl, hE, ?_⟩; simp only [Act.put, List.setIfInBounds_toArray, List.set_cons_zero, List.set_cons_succ]; refine hK _ _ ?_; clear hK K; (try replace hb := hb.ext hE); (try replace h1 := h1.ext hE); (try replace h2 := h2.ext hE); (try replace k1 := k1.ext hE); (try replace k2 := k2.ext hE); (try replace k3 := k3.ext hE); (try replace k4 := k4.ext hE); (try replace HE := Lib.hid (HE.out.trans hE))
      replace e1 := rgx_ext hE e1
      replace e2 := rgx_ext hE e2
      clear hE cho
      (repeat (first | (refine seq_skip (by rfl) ?_; intro K hK; simp only [Act.put, List.setIfInBounds_toArray, List.set_cons_zero, List.set_cons_succ]; refine hK _ ?_; clear hK K) | (refine seq_skipc (by rfl) ?_; intro K hK; simp only [Act.put, List.setIfInBounds_toArray, List.set_cons_zero, List.set_cons_succ]; refine hK _ ?_; clear hK K) | (refine seq_read (by rfl) (by rfl) ?_; intro K hK; go_big_quiet_op; first | go_big_quiet_on | (refine ⟨_, fun _ _ => rfl, ?_⟩; go_big_quiet_on))))
      refine seq_done ?_
      have x1 : w'.cell? ⟨w.heap.size, 0, none⟩ = some (.slice (some ⟨b, off, none⟩) L.length c) := (h1.cell 0).trans rfl
      go_wp2_with (refine wpList_load_rng (w := w') (by rfl) 69 _ rfl rfl e1 Tryz.underlying69 rfl (st_info _) ?_)
      refine (cfi _ (hT.ext HE.out)).mono ?_
      rintro e9 w2 ⟨rfl, hE⟩
      replace e2 := rgx_ext hE e2
      replace h1 := h1.ext hE
      replace h2 := h2.ext hE
      replace HE := Lib.hid (HE.out.trans hE)
      clear hE cfi x1 e1
      have x1 : w2.cell? ⟨w.heap.size, 0, none⟩ = some (.slice (some ⟨b, off, none⟩) L.length c) := (h1.cell 0).trans rfl
      cases B
      · have I2 := IK rfl
        clear IK hat e2 x1
        go_wp2
        go_roundw
        case rel => exact ⟨k + 1, by omega, by go_num, I2, h1, h2, HE.out⟩
        case measure => simp [intOf]; omega
      · obtain ⟨k1, k2, k3, k4⟩ := hat rfl
        have HZ := Lib.hid (foundT_eq k4 k2 k3 k1)
        clear IK k1 k2 k3 k4
        go_wp2_with (first | (refine wpList_load_rng (w := w2) (by rfl) 66 _ rfl rfl e2 Tryz.underlying66 rfl (en_info _) ?_) | (refine wpList_store_blk rfl 66 _ _ rfl rfl rfl h2 (en_info _) (by simp [enC_size]) (enC_one _) ?_))
        (try simp only [Exit.inBlock, Exit.then]); (try rw [Exit.noGoto_ret]); refine bodyPost_ret (results_c4 rfl _ _ _ _ _ _ rfl ((h2.row _)) rfl Tryz.underlying66 (en_info _)) rfl ?_
        exact ⟨by rw [HZ.out]; first | rfl | simp, HE.out.row (by omega) _⟩
    · obtain rfl : k = 3 := by omega
      have hno := find_no (n := n) (a := a) (L := L) (.inr fun j hj => I.out j (by omega))
      have HZ := Lib.hid (foundT_eq hno.2.2.2 hno.2.1 hno.2.2.1 hno.1)
      clear hno I hrow
      go_wp2_with (first | (refine wpList_build_as (by rfl) rfl (e0_build) ?_) | (refine wpList_store_blk rfl 66 _ _ rfl rfl rfl h2 (en_info _) (by simp [enC_size]) (enC_one _) ?_))
      (try simp only [Exit.inBlock, Exit.then]); (try rw [Exit.noGoto_ret]); refine bodyPost_ret (results_c4 rfl _ _ _ _ _ _ rfl ((h2.row _)) rfl Tryz.underlying66 (en_info _)) rfl ?_
      exact ⟨by rw [HZ.out]; first | rfl | simp, HE.out.row (by omega) _⟩
end Go.Proofs.YtlhoedpencmikaaGreatDoor
