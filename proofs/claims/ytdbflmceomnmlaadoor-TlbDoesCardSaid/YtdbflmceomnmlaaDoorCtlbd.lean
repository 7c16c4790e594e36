/- Package tlb: Find, All. -/
import Derived.Test.YtdbflmceomnmlaaDoorCtlba
import Derived.Test.YtdbflmceomnmlaaDoorRtlbx
namespace Go.Proofs.YtdbflmceomnmlaaDoor
open Go.ChangeShapes Go.WideShapes Go.ChangeAt Go.RowKit
set_option linter.unusedVariables false
set_option linter.unusedSimpArgs false
set_option maxRecDepth 10000
attribute [local irreducible] World.setRow World.alloc Blk

/-- a leaf of which the level alone is told -/
def lf0 (l : Int) : Lf := ⟨l, 0, ⟨false, false, false, false, false, false, false, false, 0, 0, 0⟩⟩
theorem lf0_lv (l : Int) : (lf0 l).lv = l := rfl
theorem lf0_build (l : Int) : Tryd.prog.built 71 [(0, .int .i64 l)] = some (lfC (lf0 l)) := by
  unfold lf0
  rw [lfC_def, ptC_def]
  kernel_rfl
theorem of_ix {l : Int} (l0 : 0 ≤ l) (l2 : l ≤ 2) (a n m : Nat) : ixT m ((ofE (lf0 l) a n).vp : Int) (ofE (lf0 l) a n).l = ixT m (numI a) l := by
  obtain ⟨-, h2, -, -, -, h6⟩ := ofE_v (lf0 l) a n
  rw [h2, h6, lf0_lv, nb_eq l0 l2]
  unfold ixT
  have hd : (numI (a : Int) - numI (a : Int) % pagI l) / pagI l = numI (a : Int) / pagI l := by
    rcases pag_is l0 l2 with ⟨_, h⟩ | ⟨_, h⟩ | ⟨_, h⟩ <;> rw [h] <;> omega
  rw [hd]
attribute [irreducible] lf0
set_option maxRecDepth 100000 in
set_option maxHeartbeats 2000000 in
theorem find14_c (A : Option Addr) (L : List St) (c : Nat) (hL : L.length ≤ 9223372036854775807) (hrt : rightT L = true) (n a : Nat) (n1 : n < 18446744073709551616) (ha : vaB a = true) (a1 : a < 18446744073709551616) (w : World) (hr : RowV KS w A L c) (hT : Lays w) :
    Calls Tryd.prog 16 #[.agg #[.slice A L.length c], .int .u64 (n : Int), .int .u64 (a : Int)] w fun r w' => r = FoundT n a L ∧ Ext w w' := by
  have h1 : Blk ((w.alloc (.cells #[.slice A L.length c] 24)).alloc (.cells #[.bool false, .int .u64 0, .bool false, .int .i64 0, .int .u64 0, .int .u64 0, .bool false, .bool false, .bool false, .bool false, .bool false] 29)) w.heap.size 24 #[.slice A L.length c] := (Blk.new w _ _).alloc _
  have h2 : Blk ((w.alloc (.cells #[.slice A L.length c] 24)).alloc (.cells #[.bool false, .int .u64 0, .bool false, .int .i64 0, .int .u64 0, .int .u64 0, .bool false, .bool false, .bool false, .bool false, .bool false] 29)) (w.heap.size + 1) 29 #[.bool false, .int .u64 0, .bool false, .int .i64 0, .int .u64 0, .int .u64 0, .bool false, .bool false, .bool false, .bool false, .bool false] := blk_at (by simp)
  have HE := Lib.hid (((Ext.refl w).alloc (.cells #[.slice A L.length c] 24)).alloc (.cells #[.bool false, .int .u64 0, .bool false, .int .i64 0, .int .u64 0, .int .u64 0, .bool false, .bool false, .bool false, .bool false, .bool false] 29))
  have hrow : ∀ W : World, Ext w W → RowV KS W A L c := fun W h => hr.ext h
  clear hr
  obtain ⟨m0, m1⟩ := num_lt (a : Int)
  have x1 : ((w.alloc (.cells #[.slice A L.length c] 24)).alloc (.cells #[.bool false, .int .u64 0, .bool false, .int .i64 0, .int .u64 0, .int .u64 0, .bool false, .bool false, .bool false, .bool false, .bool false] 29)).cell? ⟨w.heap.size, 0, none⟩ = some (.slice A L.length c) := (h1.cell 0).trans rfl
  rcases Nat.eq_zero_or_pos L.length with hp | hp
  · have hno := find_no (n := n) (a := a) (L := L) (.inl (by omega))
    have HZ := Lib.hid (foundT_eq hno.2.2.2 hno.2.1 hno.2.2.1 hno.1)
    have h0 : ((L.length : Int) == 0) = true := by rw [beq_iff_eq]; omega
    clear hno hrow hp
    go_enter Tryd.func16, Tryd.ntmps16
    go_wp2_with (first | (refine wpList_build_as (by rfl) rfl (e0_build) ?_) | (refine wpList_store_blk rfl 29 _ _ rfl rfl rfl h2 (en_info _) (by simp [enC_size]) (enC_one _) ?_))
    (try simp only [Exit.inBlock, Exit.then]); (try rw [Exit.noGoto_ret]); refine bodyPost_ret (results_c4 rfl _ _ _ _ _ _ rfl ((h2.row _)) rfl Tryd.underlying29 (en_info _)) rfl ?_
    exact ⟨by rw [HZ.out]; first | rfl | simp, HE.out.row (by omega) _⟩
  have h0 : ((L.length : Int) == 0) = false := by rw [beq_eq_false_iff_ne]; omega
  go_enter Tryd.func16, Tryd.ntmps16
  go_wp2
  clear x1
  go_loopw [19] (fun i wr => ∃ k : Nat, k ≤ 3 ∧ i = .int .i64 k ∧ Hid (∀ j, j < k → lvT n a L j = false) ∧ Blk wr w.heap.size 24 #[.slice A L.length c] ∧ Blk wr (w.heap.size + 1) 29 #[.bool false, .int .u64 0, .bool false, .int .i64 0, .int .u64 0, .int .u64 0, .bool false, .bool false, .bool false, .bool false, .bool false] ∧ Ext w wr) (fun i _ => (3 - intOf i).toNat)
  case atStart => exact ⟨0, by omega, rfl, Lib.hid (fun j hj => absurd hj (by omega)), h1, h2, HE.out⟩
  case round =>
    clear h1 h2 HE
    obtain ⟨k, hk, rfl, I, h1, h2, hE⟩ := hrel
    have HE := Lib.hid hE
    clear hE
    by_cases hlt : k < 3
    · have hkz : (k : Int) < 3 := by omega
      have hx := ix_lt hp (numI (a : Int)) (k : Int)
      have cof := fun w h => of12_c (lf0 (k : Int)) (by rw [lf0_lv]; omega) (by rw [lf0_lv]; omega) a n a1 w h
      have hoe := ofE_v (lf0 (k : Int)) a n
      rw [lf0_lv] at hoe
      have cho := fun w => home14_c (ofE (lf0 (k : Int)) a n) (by rw [hoe.2.1]; omega) (by rw [hoe.2.1]; omega) (by have := nb_lt (a : Int) (k : Int); have := hoe.2.2.2.2.2; omega) L.length hp hL w
      rw [of_ix (by omega) (by omega)] at cho
      have cfi := fun w h => find13_c (sT L (ixT L.length (numI (a : Int)) (k : Int))) (fun u hu hv => have k := may_v (rt_may hrt hx hu) hv; ⟨k.l0, k.l2⟩) (n : Int) (a : Int) (k : Int) (by omega) (by omega) (by omega) (by omega) w h
      have hw := fi_lt (hitE n a (k : Int)) (sT L (ixT L.length (numI (a : Int)) (k : Int))).ws
      rw [lv_eq] at cfi
      have hat := find_at (n := n) (a := a) hp hlt I.out
      have IK : lvT n a L k = false → Hid (∀ j, j < k + 1 → lvT n a L j = false) := fun h => Lib.hid fun j hj => by
        rcases Nat.lt_or_ge j k with h1 | h1
        · exact I.out j h1
        · obtain rfl : j = k := by omega
          exact h
      obtain ⟨b, off, rfl, hb, hrx⟩ := (hrow _ HE.out).some hp
      have e1 : wr.rangeAt b (off + ixT L.length (numI (a : Int)) (k : Int) * 45) (stC (sT L (ixT L.length (numI (a : Int)) (k : Int)))).toList := by rw [sT_eq]; exact hrx _ hx
      have e2 := rng_way e1 hw
      have hlb := lf0_build (k : Int)
      clear I hk hrx hrow hlt hoe
      generalize ofE (lf0 (k : Int)) a n = eo at *
      generalize lf0 (k : Int) = lo at *
      generalize ixT L.length (numI (a : Int)) (k : Int) = x at *
      generalize fiW (hitE n a (k : Int)) (sT L x).ws = y at *
      generalize (sT L x).ws.at y = f at *
      generalize sT L x = s at *
      generalize lvT n a L k = B at *
      generalize numI (a : Int) = nu at *
      have hxz : (x : Int) < (L.length : Int) := by omega
      have hyz : (y : Int) < 4 := by omega
      go_wp2_with fail
      replace h1 := Blk.drew h1
      replace h2 := Blk.drew h2
      replace e1 := rgx_ext (Ext.refl _).drew e1
      replace e2 := rgx_ext (Ext.refl _).drew e2
      replace HE := Lib.hid HE.out.drew
      refine wp_region_seq [(0, false), (1, false), (2, false), (3, false), (5, false), (6, false), (7, false), (4, true), (8, true), (9, false)] Ext (by kernel_rfl) (by kernel_rfl) Ext.refl (fun _ _ _ => Ext.trans) ?_; simp only [List.map, nth_z, nth_s]
      (try simp only [Act.put, List.setIfInBounds_toArray, List.set_cons_zero, List.set_cons_succ])
      (repeat (first | (refine seq_skip (by rfl) ?_; intro K hK; simp only [Act.put, List.setIfInBounds_toArray, List.set_cons_zero, List.set_cons_succ]; refine hK _ ?_; clear hK K) | (refine seq_skipc (by rfl) ?_; intro K hK; simp only [Act.put, List.setIfInBounds_toArray, List.set_cons_zero, List.set_cons_succ]; refine hK _ ?_; clear hK K) | (refine seq_read (by rfl) (by rfl) ?_; intro K hK; go_big_quiet_op; first | go_big_quiet_on | (refine ⟨_, fun _ _ => rfl, ?_⟩; go_big_quiet_on))))
      refine seq_build_as rfl (hlb) (by rfl) ?_; intro K hK; simp only [Act.put, List.setIfInBounds_toArray, List.set_cons_zero, List.set_cons_succ]; refine hK _ ?_; clear hK K
      (repeat (first | (refine seq_skip (by rfl) ?_; intro K hK; simp only [Act.put, List.setIfInBounds_toArray, List.set_cons_zero, List.set_cons_succ]; refine hK _ ?_; clear hK K) | (refine seq_skipc (by rfl) ?_; intro K hK; simp only [Act.put, List.setIfInBounds_toArray, List.set_cons_zero, List.set_cons_succ]; refine hK _ ?_; clear hK K) | (refine seq_read (by rfl) (by rfl) ?_; intro K hK; go_big_quiet_op; first | go_big_quiet_on | (refine ⟨_, fun _ _ => rfl, ?_⟩; go_big_quiet_on))))
      refine seq_value ((.slice (some ⟨b, off, none⟩) L.length c)) (by rfl) (fun x hx => by have hq := ext_cell hx ((h1.cell 0).trans rfl); simp [go_sem, execOp, Act.eval, hq]) ?_; intro K hK; simp only [Act.put, List.setIfInBounds_toArray, List.set_cons_zero, List.set_cons_succ]; refine hK _ ?_; clear hK K
      (repeat (first | (refine seq_skip (by rfl) ?_; intro K hK; simp only [Act.put, List.setIfInBounds_toArray, List.set_cons_zero, List.set_cons_succ]; refine hK _ ?_; clear hK K) | (refine seq_skipc (by rfl) ?_; intro K hK; simp only [Act.put, List.setIfInBounds_toArray, List.set_cons_zero, List.set_cons_succ]; refine hK _ ?_; clear hK K) | (refine seq_read (by rfl) (by rfl) ?_; intro K hK; go_big_quiet_op; first | go_big_quiet_on | (refine ⟨_, fun _ _ => rfl, ?_⟩; go_big_quiet_on))))
      refine seq_call (cof _ (hT.ext HE.out).1) rfl Tryd.func35 (by kernel_rfl) (by kernel_rfl) (by rfl) (by rfl) ?_; intro K hK; rintro e w' ⟨rfl, hE⟩; refine ⟨_, rfl, hE, ?_⟩; simp only [Act.put, List.setIfInBounds_toArray, List.set_cons_zero, List.set_cons_succ]; refine hK _ _ ?_; clear hK K; (try replace hb := hb.ext hE); (try replace h1 := h1.ext hE); (try replace h2 := h2.ext hE); (try replace k1 := k1.ext hE); (try replace k2 := k2.ext hE); (try replace k3 := k3.ext hE); (try replace k4 := k4.ext hE); (try replace HE := Lib.hid (HE.out.trans hE))
      replace e1 := rgx_ext hE e1
      replace e2 := rgx_ext hE e2
      clear hE cof
      refine seq_call (cho _) rfl Tryd.func34 (by kernel_rfl) (by kernel_rfl) (by rfl) (by rfl) ?_; intro K hK; rintro e w' ⟨rfl, hE⟩; refine ⟨_, rfl, hE, ?_⟩; simp only [Act.put, List.setIfInBounds_toArray, List.set_cons_zero, List.set_cons_succ]; refine hK _ _ ?_; clear hK K; (try replace hb := hb.ext hE); (try replace h1 := h1.ext hE); (try replace h2 := h2.ext hE); (try replace k1 := k1.ext hE); (try replace k2 := k2.ext hE); (try replace k3 := k3.ext hE); (try replace k4 := k4.ext hE); (try replace HE := Lib.hid (HE.out.trans hE))
      replace e1 := rgx_ext hE e1
      replace e2 := rgx_ext hE e2
      clear hE cho
      (repeat (first | (refine seq_skip (by rfl) ?_; intro K hK; simp only [Act.put, List.setIfInBounds_toArray, List.set_cons_zero, List.set_cons_succ]; refine hK _ ?_; clear hK K) | (refine seq_skipc (by rfl) ?_; intro K hK; simp only [Act.put, List.setIfInBounds_toArray, List.set_cons_zero, List.set_cons_succ]; refine hK _ ?_; clear hK K) | (refine seq_read (by rfl) (by rfl) ?_; intro K hK; go_big_quiet_op; first | go_big_quiet_on | (refine ⟨_, fun _ _ => rfl, ?_⟩; go_big_quiet_on))))
      refine seq_done ?_
      have x1 : w'.cell? ⟨w.heap.size, 0, none⟩ = some (.slice (some ⟨b, off, none⟩) L.length c) := (h1.cell 0).trans rfl
      go_wp2_with (refine wpList_load_rng (w := w') (by rfl) 52 _ rfl rfl e1 Tryd.underlying52 rfl (st_info _) ?_)
      refine (cfi _ (hT.ext HE.out)).mono ?_
      rintro e9 w2 ⟨rfl, hE⟩
      replace e2 := rgx_ext hE e2
      replace h1 := h1.ext hE
      replace h2 := h2.ext hE
      replace HE := Lib.hid (HE.out.trans hE)
      clear hE cfi x1 e1
      have x1 : w2.cell? ⟨w.heap.size, 0, none⟩ = some (.slice (some ⟨b, off, none⟩) L.length c) := (h1.cell 0).trans rfl
      cases B
      · have I2 := IK rfl
        clear IK hat e2 x1
        go_wp2
        go_roundw
        case rel => exact ⟨k + 1, by omega, by go_num, I2, h1, h2, HE.out⟩
        case measure => simp [intOf]; omega
      · obtain ⟨k1, k2, k3, k4⟩ := hat rfl
        have HZ := Lib.hid (foundT_eq k4 k2 k3 k1)
        clear IK k1 k2 k3 k4
        go_wp2_with (first | (refine wpList_load_rng (w := w2) (by rfl) 29 _ rfl rfl e2 Tryd.underlying29 rfl (en_info _) ?_) | (refine wpList_store_blk rfl 29 _ _ rfl rfl rfl h2 (en_info _) (by simp [enC_size]) (enC_one _) ?_))
        (try simp only [Exit.inBlock, Exit.then]); (try rw [Exit.noGoto_ret]); refine bodyPost_ret (results_c4 rfl _ _ _ _ _ _ rfl ((h2.row _)) rfl Tryd.underlying29 (en_info _)) rfl ?_
        exact ⟨by rw [HZ.out]; first | rfl | simp, HE.out.row (by omega) _⟩
    · obtain rfl : k = 3 := by omega
      have hno := find_no (n := n) (a := a) (L := L) (.inr fun j hj => I.out j (by omega))
      have HZ := Lib.hid (foundT_eq hno.2.2.2 hno.2.1 hno.2.2.1 hno.1)
      clear hno I hrow
      go_wp2_with (first | (refine wpList_build_as (by rfl) rfl (e0_build) ?_) | (refine wpList_store_blk rfl 29 _ _ rfl rfl rfl h2 (en_info _) (by simp [enC_size]) (enC_one _) ?_))
      (try simp only [Exit.inBlock, Exit.then]); (try rw [Exit.noGoto_ret]); refine bodyPost_ret (results_c4 rfl _ _ _ _ _ _ rfl ((h2.row _)) rfl Tryd.underlying29 (en_info _)) rfl ?_
      exact ⟨by rw [HZ.out]; first | rfl | simp, HE.out.row (by omega) _⟩
/-- entries in a row of the call's own -/
def MadeO (M : List En) (w : World) (r : Ending) (w' : World) : Prop := ∃ v, r = .returned v ∧ w'.ownsRow w.heap.size KE.e KE.sz v M.length (KE.flat M) ∧ Ext w w'
theorem own_base {w : World} {b b2 : Nat} {e : TypeId} {size : Nat} {v : Value} {n : Nat} {xs : List Value} (h : w.ownsRow b e size v n xs) (hb : b2 ≤ b) : w.ownsRow b2 e size v n xs := by
  refine ⟨h.1, ?_⟩
  rcases h.2 with h0 | ⟨g, cap, cur, hv, hbg, h3⟩
  · exact .inl h0
  · exact .inr ⟨g, cap, cur, hv, Nat.le_trans hb hbg, h3⟩
set_option maxRecDepth 100000 in
set_option maxHeartbeats 2000000 in
theorem all14_c (A : Option Addr) (L : List St) (c : Nat) (hL : L.length ≤ 1000) (w : World) (hr : RowV KS w A L c) :
    Calls Tryd.prog 22 #[.agg #[.slice A L.length c]] w (MadeO (allT L) w) := by
  have h1 := Blk.new w 24 #[.slice A L.length c]
  have HE := Lib.hid ((Ext.refl w).alloc (.cells #[.slice A L.length c] 24))
  have hrow : ∀ W : World, Ext w W → RowV KS W A L c := fun W h => hr.ext h
  have hlen := fun k q => allQ_len (L := L) (k := k) (q := q)
  have x1 : (w.alloc (.cells #[.slice A L.length c] 24)).cell? ⟨w.heap.size, 0, none⟩ = some (.slice A L.length c) := (h1.cell 0).trans rfl
  clear hr
  go_enter Tryd.func22, Tryd.ntmps22
  go_wp2
  clear x1
  go_loopw [3, 11] (fun v i wr => ∃ k : Nat, k ≤ L.length ∧ i = .int .i64 k ∧ wr.ownsRow (w.heap.size + 1) KE.e KE.sz v (allQ L k 0).length (KE.flat (allQ L k 0)) ∧ w.heap.size + 1 ≤ wr.heap.size ∧ Ext w wr) (fun _ i _ => (L.length - intOf i).toNat)
  case atStart => exact ⟨0, by omega, rfl, by rw [allQ_0]; exact World.ownsRow_nil _ _ _ _, by simp, HE.out⟩
  case round =>
    clear h1 HE
    obtain ⟨k, hk, rfl, hown, hsz, hE⟩ := hrel
    have HE := Lib.hid hE
    clear hE
    by_cases hlt : k < L.length
    · have hkz : (k : Int) < (L.length : Int) := by omega
      have h4 := allQ_4 hlt
      obtain ⟨b, off, rfl, hb, hrx⟩ := (hrow _ HE.out).some (by omega)
      have e1 : wr.rangeAt b (off + k * 45) (stC (sT L k)).toList := by rw [sT_eq]; exact hrx k hlt
      have hnx := fun q hq => allQ_next (L := L) (k := k) (q := q) hq
      have hix := fun q hq => index_ws (sT L k).ws (k := q) hq
      clear hk hrx hrow
      generalize sT L k = s at *
      have h2 := Blk.new wr 52 (stC s)
      replace hown := World.ownsRow.alloc hown (.cells (stC s) 52)
      replace HE := Lib.hid (HE.out.alloc (.cells (stC s) 52))
      replace hsz : w.heap.size + 1 ≤ (wr.alloc (.cells (stC s) 52)).heap.size := by have := h2.lt; omega
      go_wp2_with (first | (refine wpList_load_rng (w := wr) (by rfl) 52 _ rfl rfl e1 Tryd.underlying52 rfl (st_info _) ?_) | (refine wpList_store_new rfl 52 _ _ rfl (stC _) _ _ rfl rfl (st_info _) (by simp [stC_size]) (stC_one _) ?_) | (refine wpList_load_part (by rfl) 50 _ rfl rfl h2 (stC_ws s) Tryd.underlying50 rfl (ws_info _) ?_))
      generalize wr.alloc (.cells (stC s) 52) = wr1 at *
      clear h2 e1 hb
      go_loopw [3, 17] (fun v i wr => ∃ q : Nat, q ≤ 4 ∧ i = .int .i64 q ∧ wr.ownsRow (w.heap.size + 1) KE.e KE.sz v (allQ L k q).length (KE.flat (allQ L k q)) ∧ w.heap.size + 1 ≤ wr.heap.size ∧ Ext w wr) (fun _ i _ => (4 - intOf i).toNat)
      case atStart => exact ⟨0, by omega, rfl, hown, hsz, HE.out⟩
      case round =>
        clear HE hown hsz
        obtain ⟨q, hq, rfl, hown, hsz, hE⟩ := hrel
        have HE := Lib.hid hE
        clear hE
        by_cases hql : q < 4
        · have hqz : (q : Int) < 4 := by omega
          have hnq := hnx q hql
          have hiq := hix q hql
          have hle := hlen k q
          clear hnx hix hlen h4 hq
          generalize s.ws.at q = e at *
          have h2 := Blk.new wr 29 (enC e)
          replace hown := World.ownsRow.alloc hown (.cells (enC e) 29)
          replace HE := Lib.hid (HE.out.alloc (.cells (enC e) 29))
          replace hsz : w.heap.size + 1 ≤ (wr.alloc (.cells (enC e) 29)).heap.size := by have := h2.lt; omega
          have x0 := h2.en_v
          cases hv : e.v
          · rw [hv] at hnq x0
            rw [if_neg (by decide), List.append_nil] at hnq
            rw [← hnq] at hown
            clear hv hnq hle
            go_wp2_with (refine wpList_store_new rfl 29 _ _ rfl (enC _) _ _ rfl rfl (en_info _) (by simp [enC_size]) (enC_one _) ?_)
            go_roundw
            case rel => exact ⟨q + 1, by omega, by go_num, hown, hsz, HE.out⟩
            case measure => simp [intOf]; omega
          · rw [hv] at hnq x0
            rw [if_pos rfl] at hnq
            go_upto_region 9 with (refine wpList_store_new rfl 29 _ _ rfl (enC _) _ _ rfl rfl (en_info _) (by simp [enC_size]) (enC_one _) ?_)
            generalize wr.heap.size = g2 at *
            generalize wr.alloc (.cells (enC e) 29) = wr2 at *
            have hap := fun ty => run_append_en wr2 (w.heap.size + 1) u3 (allQ L k q) hown e (by omega) hsz ty
            rw [← hnq] at hap
            have he11 := enC_size e
            have hfo := en_fold e
            clear hv hnq hle hown hiq x0
            go_wp2_with (first | (refine wpList_load_blk (by rfl) 29 _ rfl rfl h2 Tryd.underlying29 rfl (by kernel_rfl) ?_) | (at_builtin; refine wpList_append_run' _ rfl _ _ _ rfl _ _ rfl rfl _ (hap _) ?_; rintro v3 w3 ⟨hown3, hB⟩; have hsz3 := Nat.le_trans hsz hB.size; have HE3 : Hid (Ext w w3) := Lib.hid (Below.trans HE.out (Below.mono hB (Nat.le_succ _)))))
            go_roundw
            case rel => exact ⟨q + 1, by omega, by go_num, hown3, hsz3, HE3.out⟩
            case measure => simp [intOf]; omega
        · obtain rfl : q = 4 := by omega
          rw [h4] at hown
          go_wp2
          go_roundw
          case rel => exact ⟨k + 1, by omega, by go_num, hown, hsz, HE.out⟩
          case measure => simp [intOf]; omega
    · obtain rfl : k = L.length := by omega
      rw [allQ_end] at hown
      go_wp2
      go_ret
      exact ⟨_, rfl, own_base hown (by omega), HE.out⟩
end Go.Proofs.YtdbflmceomnmlaaDoor
