/- Package table: page: the page of a spot. -/
import Derived.Test.YtcllbidhjggjiaaDoorCtaba
import Derived.Test.YtcllbidhjggjiaaDoorGrtac
import Derived.Test.YtcllbidhjggjiaaDoorGctab
import Derived.Test.YtcllbidhjggjiaaDoorGite
namespace Go.Proofs.YtcllbidhjggjiaaDoor
open Go.ChangeShapes Go.WideShapes Go.ChangeAt Go.RowKit
set_option linter.unusedVariables false
set_option linter.unusedSimpArgs false
set_option maxRecDepth 10000
theorem sptC_pp (s : Spt) : (sptC s)[11]? = some (.int .u64 (s.pt.pp : Int)) := by simp only [sptC_eq, ptC_eq]; rfl
theorem sptC_d (s : Spt) : (sptC s)[9]? = some (.bool s.pt.d) := by simp only [sptC_eq, ptC_eq]; rfl
attribute [local irreducible] World.setRow World.alloc Blk
set_option maxHeartbeats 2000000 in
theorem tpage_c {a : Nat} {s : Spt} (ha : a < szN 3) (hd : 4096 ∣ a) (hpp : s.pt.pp < 17592186044416) (w : World) :
    Calls Tryd.prog 50 #[.int .u64 (a : Int), .agg (sptC s)] w fun e w' => e = .returned (.agg (pgC (pgS (a, s)))) ∧ Ext w w' := by
  have h1 : Blk ((w.alloc (.cells (sptC s) 65)).alloc (.cells #[.int .u64 0, .int .u64 0, .int .i64 0, .bool false, .bool false, .bool false, .bool false, .bool false] 49)) w.heap.size 65 (sptC s) := (Blk.new w _ _).alloc _
  have k2 : Blk ((w.alloc (.cells (sptC s) 65)).alloc (.cells #[.int .u64 0, .int .u64 0, .int .i64 0, .bool false, .bool false, .bool false, .bool false, .bool false] 49)) (w.heap.size + 1) 49 #[.int .u64 0, .int .u64 0, .int .i64 0, .bool false, .bool false, .bool false, .bool false, .bool false] := blk_at (by simp)
  have HE := Lib.hid (((Ext.refl w).alloc (.cells (sptC s) 65)).alloc (.cells #[.int .u64 0, .int .u64 0, .int .i64 0, .bool false, .bool false, .bool false, .bool false, .bool false] 49))
  have s3 := sz_vals.2.2.2
  have cnu := fun W => number5_c (a : Int) (by omega) (by omega) W
  have cof := fun W => of5_c (numI (a : Int)) (num_lt _).1 (by have := (num_lt (a : Int)).2; omega) W
  rw [va_of ha hd] at cof
  have cpm := fun W => perm_c s.pt W
  have hw9 : IntKind.u64.wrap ((s.pt.pp : Int) * 4096) = ((4096 * s.pt.pp : Nat) : Int) := by rw [IntKind.wrap_u64]; omega
  have hP : pgS (a, s) = ⟨vaN a, 4096 * s.pt.pp, s.lv, permP s.pt, s.pt.d⟩ := rfl
  rw [hP]
  clear hP ha hd
  generalize vaN a = va at *
  generalize 4096 * s.pt.pp = pa at *
  generalize permP s.pt = pm at *
  have hbd9 : Tryd.prog.built 49 [(0, .int .u64 (va : Int)), (1, .int .u64 (pa : Int)), (2, .int .i64 s.lv), (3, .agg (pmC pm)), (4, .bool s.pt.d)] = some (pgC ⟨va, pa, s.lv, pm, s.pt.d⟩) := pg_build ⟨va, pa, s.lv, pm, s.pt.d⟩
  generalize (⟨va, pa, s.lv, pm, s.pt.d⟩ : Pg) = X at *
  generalize numI (a : Int) = na at *
  go_enter Tryd.func50, Tryd.ntmps50
  go_upto_region 1 with fail
  have hl0 := k2.lt
  have hE := (Ext.refl ((w.alloc (.cells (sptC s) 65)).alloc (.cells #[.int .u64 0, .int .u64 0, .int .i64 0, .bool false, .bool false, .bool false, .bool false, .bool false] 49))).drew
  (try replace hd := hd.ext hE); (try replace h1 := h1.ext hE); (try replace k2 := k2.ext hE); (try replace HE := Lib.hid (HE.out.trans hE)); (try replace r0 := r0.ext hE); (try replace r1 := r1.ext hE); (try replace r2 := r2.ext hE); (try replace r3 := r3.ext hE); (try replace r4 := r4.ext hE); (try replace r5 := r5.ext hE); (try replace r6 := r6.ext hE)
  clear hE
  refine wp_region_seq [(0, false), (3, false), (4, false), (5, false), (6, false), (7, false), (8, false), (9, false), (10, false), (12, false), (13, false), (14, false), (1, true), (2, true), (11, true), (15, false), (16, true)] (Gap (w.heap.size + 1) (w.heap.size + 1 + 1)) (by kernel_rfl) (by kernel_rfl) (Gap.refl _ _) (fun _ _ _ => Gap.trans) ?_; simp only [List.map, nth_z, nth_s]
  generalize ((w.alloc (.cells (sptC s) 65)).alloc (.cells #[.int .u64 0, .int .u64 0, .int .i64 0, .bool false, .bool false, .bool false, .bool false, .bool false] 49)).drew = w2 at *
  (repeat (first | (refine seq_skip (by rfl) ?_; intro K hK; simp only [Act.put, List.setIfInBounds_toArray, List.set_cons_zero, List.set_cons_succ]; refine hK _ ?_; clear hK K) | (refine seq_skipc (by rfl) ?_; intro K hK; simp only [Act.put, List.setIfInBounds_toArray, List.set_cons_zero, List.set_cons_succ]; refine hK _ ?_; clear hK K) | (refine seq_read (by rfl) (by rfl) ?_; intro K hK; go_big_quiet_op; first | go_big_quiet_on | (refine ⟨_, fun _ _ => rfl, ?_⟩; go_big_quiet_on))))
  refine seq_value (.int .u64 (s.pt.pp : Int)) (by rfl) (fun x hx => by have hq := ((Gap.blk hx (h1) (by omega)).cell 11).trans (sptC_pp s); simp [go_sem, execOp, Act.eval, hq]) ?_; intro K hK; simp only [Act.put, List.setIfInBounds_toArray, List.set_cons_zero, List.set_cons_succ]; refine hK _ ?_; clear hK K
  (repeat (first | (refine seq_skip (by rfl) ?_; intro K hK; simp only [Act.put, List.setIfInBounds_toArray, List.set_cons_zero, List.set_cons_succ]; refine hK _ ?_; clear hK K) | (refine seq_skipc (by rfl) ?_; intro K hK; simp only [Act.put, List.setIfInBounds_toArray, List.set_cons_zero, List.set_cons_succ]; refine hK _ ?_; clear hK K) | (refine seq_read (by rfl) (by rfl) ?_; intro K hK; go_big_quiet_op; first | go_big_quiet_on | (refine ⟨_, fun _ _ => rfl, ?_⟩; go_big_quiet_on))))
  refine seq_value (.int .i64 s.lv) (by rfl) (fun x hx => by have hq := ((Gap.blk hx (h1) (by omega)).cell 1).trans (sptC_lv s); simp [go_sem, execOp, Act.eval, hq]) ?_; intro K hK; simp only [Act.put, List.setIfInBounds_toArray, List.set_cons_zero, List.set_cons_succ]; refine hK _ ?_; clear hK K
  (repeat (first | (refine seq_skip (by rfl) ?_; intro K hK; simp only [Act.put, List.setIfInBounds_toArray, List.set_cons_zero, List.set_cons_succ]; refine hK _ ?_; clear hK K) | (refine seq_skipc (by rfl) ?_; intro K hK; simp only [Act.put, List.setIfInBounds_toArray, List.set_cons_zero, List.set_cons_succ]; refine hK _ ?_; clear hK K) | (refine seq_read (by rfl) (by rfl) ?_; intro K hK; go_big_quiet_op; first | go_big_quiet_on | (refine ⟨_, fun _ _ => rfl, ?_⟩; go_big_quiet_on))))
  refine seq_load_part rfl rfl ((fun x hx => Gap.blk hx h1 (by omega))) (sptC_pt s) rfl Tryd.underlying53 (pt_info _) (by rfl) ?_; intro K hK; simp only [Act.put, List.setIfInBounds_toArray, List.set_cons_zero, List.set_cons_succ]; refine hK _ ?_; clear hK K
  (repeat (first | (refine seq_skip (by rfl) ?_; intro K hK; simp only [Act.put, List.setIfInBounds_toArray, List.set_cons_zero, List.set_cons_succ]; refine hK _ ?_; clear hK K) | (refine seq_skipc (by rfl) ?_; intro K hK; simp only [Act.put, List.setIfInBounds_toArray, List.set_cons_zero, List.set_cons_succ]; refine hK _ ?_; clear hK K) | (refine seq_read (by rfl) (by rfl) ?_; intro K hK; go_big_quiet_op; first | go_big_quiet_on | (refine ⟨_, fun _ _ => rfl, ?_⟩; go_big_quiet_on))))
  refine seq_value (.bool s.pt.d) (by rfl) (fun x hx => by have hq := ((Gap.blk hx (h1) (by omega)).cell 9).trans (sptC_d s); simp [go_sem, execOp, Act.eval, hq]) ?_; intro K hK; simp only [Act.put, List.setIfInBounds_toArray, List.set_cons_zero, List.set_cons_succ]; refine hK _ ?_; clear hK K
  refine seq_call (calls_ext (cnu _)) rfl Tryd.func77 (by kernel_rfl) (by kernel_rfl) (by rfl) (by rfl) ?_; intro K hK; rintro e w' ⟨rfl, hE⟩; refine ⟨_, rfl, (Gap.ext hE), ?_⟩; simp only [Act.put, List.setIfInBounds_toArray, List.set_cons_zero, List.set_cons_succ]; refine hK _ _ ?_; clear hK K
  (try replace hd := hd.ext hE); (try replace h1 := h1.ext hE); (try replace k2 := k2.ext hE); (try replace HE := Lib.hid (HE.out.trans hE)); (try replace r0 := r0.ext hE); (try replace r1 := r1.ext hE); (try replace r2 := r2.ext hE); (try replace r3 := r3.ext hE); (try replace r4 := r4.ext hE); (try replace r5 := r5.ext hE); (try replace r6 := r6.ext hE)
  clear hE
  refine seq_call (calls_ext (cof _)) rfl Tryd.func76 (by kernel_rfl) (by kernel_rfl) (by rfl) (by rfl) ?_; intro K hK; rintro e w' ⟨rfl, hE⟩; refine ⟨_, rfl, (Gap.ext hE), ?_⟩; simp only [Act.put, List.setIfInBounds_toArray, List.set_cons_zero, List.set_cons_succ]; refine hK _ _ ?_; clear hK K
  (try replace hd := hd.ext hE); (try replace h1 := h1.ext hE); (try replace k2 := k2.ext hE); (try replace HE := Lib.hid (HE.out.trans hE)); (try replace r0 := r0.ext hE); (try replace r1 := r1.ext hE); (try replace r2 := r2.ext hE); (try replace r3 := r3.ext hE); (try replace r4 := r4.ext hE); (try replace r5 := r5.ext hE); (try replace r6 := r6.ext hE)
  clear hE
  refine seq_call (cpm _) rfl Tryd.func78 (by kernel_rfl) (by kernel_rfl) (by rfl) (by rfl) ?_; intro K hK; rintro e w' ⟨rfl, hE⟩; refine ⟨_, rfl, (Gap.ext hE), ?_⟩; simp only [Act.put, List.setIfInBounds_toArray, List.set_cons_zero, List.set_cons_succ]; refine hK _ _ ?_; clear hK K
  (try replace hd := hd.ext hE); (try replace h1 := h1.ext hE); (try replace k2 := k2.ext hE); (try replace HE := Lib.hid (HE.out.trans hE)); (try replace r0 := r0.ext hE); (try replace r1 := r1.ext hE); (try replace r2 := r2.ext hE); (try replace r3 := r3.ext hE); (try replace r4 := r4.ext hE); (try replace r5 := r5.ext hE); (try replace r6 := r6.ext hE)
  clear hE
  have hl2 := k2.lt
  refine seq_build_as rfl (hbd9) (by rfl) ?_; intro K hK; simp only [Act.put, List.setIfInBounds_toArray, List.set_cons_zero, List.set_cons_succ]; refine hK _ ?_; clear hK K
  refine seq_store_row rfl rfl rfl (k2) (pg_info _) (by simp [pgC_size]) (pgC_one _) (by rfl) (Gap.row _ (by omega) (by omega) _) ?_; intro K hK; simp only [Act.put, List.setIfInBounds_toArray, List.set_cons_zero, List.set_cons_succ]; refine hK _ _ ?_; clear hK K
  refine seq_done ?_
  go_wp2
  (try simp only [Exit.inBlock, Exit.then]); (try rw [Exit.noGoto_ret]); refine bodyPost_ret (results_cell_row rfl _ _ _ _ _ _ _ rfl ((k2.row _).mem19) Tryd.underlying49 rfl (pg_info _)) rfl ?_
  exact ⟨rfl, HE.out.row (by omega) _⟩
end Go.Proofs.YtcllbidhjggjiaaDoor
/- Package table: Frames and Pages: loops over the iterator of all spots that collect. -/
namespace Go.Proofs.YtcllbidhjggjiaaDoor
open Go.ChangeShapes Go.WideShapes Go.ChangeAt Go.RowKit
set_option linter.unusedVariables false
set_option linter.unusedSimpArgs false
set_option maxRecDepth 10000
attribute [local go_sem] Oper.semAt_some
/-- an append, in a round -/
theorem wpListIn_append {F : Fence} {n : Nat} {P : Program} {ops : Array Oper} {rest : List Oper} {o : Oper} {a : Act} {w : World} {Q : Exit → Act → World → Prop} {s x : Operand} {t1 t2 : TypeId} {u y v : Value} {w1 : World} (hF : ∀ f, F.fn f) (hw : Region.wanted o (yielded ops a.tmps) = true)
    (ho : o.op = .call { callee := .builtin .append, args := #[s, x], argTypes := #[t1, t2] }) (hs : a.eval s = u) (hx : a.eval x = y) (hrun : (Builtin.append_ #[t1, t2] o.type #[u, y]).run P w = .ok v w1)
    (h : wpListIn F n P ops Q rest (a.put o.dst v) w1) : wpListIn F n P ops Q (o :: rest) a w :=
  wpListIn_step fun K hK => by
    rw [if_pos hw]
    refine ⟨fun f _ => hF f, ?_⟩
    rw [Oper.semAt_plain F _ _ (by rw [ho]; intro c e; cases e)]
    have hr : (execOp a.eval o).run P w = .ok (.value v) w1 := by
      unfold execOp
      simp only [ho, resolve, invoke, builtin, Sem.run_bind, Sem.run_pure, Result.andThen_ok, List.map_toArray, List.map_cons, List.map_nil, hs, hx, hrun]
    rw [hr]
    exact hK _ _ h
attribute [local irreducible] World.setRow World.alloc Blk
/-- what holds between two rounds: the box lb holds a row of the call's own -/
def ColI {α : Type} (K : Wide α) (w : World) (lb : Nat) (lt : TypeId) (f : List (Nat × Spt) → List α) (q : List (Nat × Spt)) (O : Option Nat) (W : World) : Prop :=
  ∃ v, O = v.ownBlock ∧ Blk W lb lt #[v] ∧ W.ownsRow w.heap.size K.e K.sz v (f q).length (K.flat (f q)) ∧ Ext w W
theorem ColI.own {α : Type} {K : Wide α} {w : World} {lb : Nat} {lt : TypeId} {f : List (Nat × Spt) → List α} : ∀ (q : List (Nat × Spt)) (O : Option Nat) (W : World), ColI K w lb lt f q O W → ∀ k, O = some k → w.heap.size ≤ k ∧ k < W.heap.size := by
  rintro q O W ⟨v, rfl, h1, h2, h3⟩ k hk
  exact h2.lt k hk
theorem ColI.abd {α : Type} {K : Wide α} {w : World} {lb B : Nat} {lt : TypeId} {f : List (Nat × Spt) → List α} (h : lb < B) (hB : w.heap.size ≤ B) : Abd B (ColI K w lb lt f) := by
  rintro q O W W' ⟨v, rfl, h1, h2, h3⟩ st
  exact ⟨v, rfl, st.blk h1 (.inl h), st.own h2, Below.trans h3 (st.below hB h3.size)⟩
/-- a round that appended -/
theorem col_end {α : Type} {K : Wide α} {w W4 W5 w5 : World} {lb : Nat} {lt : TypeId} {f : List (Nat × Spt) → List α} {q : List (Nat × Spt)} {y : Nat × Spt} {v v5 : Value} {G : List α} (hlt : lt ≠ K.e) (hlb : w.heap.size ≤ lb) (hE4 : Ext w W4) (hR : Rnd (fun k => k = lb) v.ownBlock v.ownBlock W4 W5) (hv : Blk W5 lb lt #[v]) (hr : W5.ownsRow w.heap.size K.e K.sz v (f q).length (K.flat (f q)))
    (hr4 : W4.ownsRow w.heap.size K.e K.sz v (f q).length (K.flat (f q))) (hg : W5.grownBy w5 v.ownBlock) (ho : w5.ownsRow w.heap.size K.e K.sz v5 ((f q).length + G.length) (K.flat (f q) ++ K.flat G)) (hor : v5.ownBlock = v.ownBlock ∨ v5.ownBlock = some W5.heap.size) (hf : f (q ++ [y]) = f q ++ G) :
    ∃ O', Rnd (fun k => k = lb) v.ownBlock O' W4 (w5.setRow lb #[v5]) ∧ ColI K w lb lt f (q ++ [y]) O' (w5.setRow lb #[v5]) := by
  have hv5 := grw_blk hg hv (own_type hr hv hlt)
  have hRt := (hR.trans (Rnd.grown hg hor)).trans (Rnd.row (Pv := fun k => k = lb) w5 rfl #[v5])
  refine ⟨v5.ownBlock, hRt, v5, rfl, hv5.row _, ?_, Below.trans hE4 (hRt.below hE4.size (fun k h => by omega) fun k h => (hr4.lt k h).1)⟩
  rw [hf, List.length_append, flat_app]
  exact own_off ho (own_type ho hv5 hlt) _
theorem frs_snoc (t : Nat) (q : List (Nat × Spt)) (y : Nat × Spt) (h : linkB y.2.pt = true) : t :: lnk (q ++ [y]) = (t :: lnk q) ++ [y.2.pt.pp] := by
  rw [lnk_app, lnk_cons, h, lnk_0]
  simp
theorem frs_skip (t : Nat) (q : List (Nat × Spt)) (y : Nat × Spt) (h : linkB y.2.pt = false) : t :: lnk (q ++ [y]) = t :: lnk q := by
  rw [lnk_app, lnk_cons, h, lnk_0]
  simp
set_option maxHeartbeats 4000000 in
/-- **table.Frames: every table of a right tree, each once.** -/
theorem tframes_c {S : Nat} {B : Option Addr} {L : List (Nat × Nat)} {d n t : Nat} (w : World) (hM : Mem w S B L d) (hn : n ≤ 2) (hT : TreeOk S L n t) (hZ : Siz w) :
    Calls Tryd.prog 37 #[.agg #[.int .u64 (S : Int), .slice B L.length d], .int .u64 (t : Int), .int .i64 (n : Int)] w fun r w' => ∃ A c, r = .returned (.slice A (frs L n t).length c) ∧ RowV KU w' A (frs L n t) c ∧ Ext w w' := by
  refine (callsIn_wide (n := 12)).1 ?_
  refine callsIn_of_wp_marks Tryd.func37 rfl trivial ?_ rfl
  simp only [Tryd.ntmps37, List.size_toArray, List.length_cons, List.length_nil, Nat.reduceAdd, Nat.reduceSub, Array.replicate_succ, Array.replicate_zero, List.push_toArray, List.append_toArray, List.nil_append, List.cons_append]
  gi_wp2_with fail
  refine ⟨trivial, ?_⟩
  obtain ⟨W4, hW4⟩ : ∃ W4, W4 = ((w.alloc (.cells #[.int .u64 (S : Int), .slice B L.length d] 25)).alloc (.cells #[.int .u64 (t : Int)] 22)).alloc (.cells #[.slice (some ⟨w.heap.size + 1, 0, none⟩) 1 1] 75) := ⟨_, rfl⟩
  have hs4 : W4.heap.size = w.heap.size + 1 + 1 + 1 := by rw [hW4]; simp
  have hE4 : Ext w W4 := by rw [hW4]; exact (((Ext.refl w).alloc _).alloc _).alloc _
  have ho4 : Blk W4 (w.heap.size + 1 + 1) 75 #[.slice (some ⟨w.heap.size + 1, 0, none⟩) 1 1] := by rw [hW4]; exact blk_at (by simp)
  have hr4 : W4.ownsRow w.heap.size KU.e KU.sz (.slice (some ⟨w.heap.size + 1, 0, none⟩) 1 1) [t].length (KU.flat [t]) := by
    have hb : Blk W4 (w.heap.size + 1) 22 #[.int .u64 (t : Int)] := by rw [hW4]; exact (blk_at (by simp)).alloc _
    unfold Blk at hb
    exact ⟨rfl, .inr ⟨w.heap.size + 1, 1, _, rfl, by omega, hb, by simp, by unfold maxLen; omega, rfl, rfl⟩⟩
  rw [← hW4]
  clear hW4
  refine (callsIn_wide.2 (ttree_c S B L.length d t n 0 W4)).mono ?_
  rintro e w1 ⟨rfl, hw1⟩
  have hE5 : Ext W4 w1 := by rw [hw1]; exact ((((Ext.refl W4).alloc _).alloc _).alloc _).alloc _
  have b1 : Blk w1 W4.heap.size 25 #[.int .u64 (S : Int), .slice B L.length d] := by rw [hw1]; exact (((Blk.new W4 _ _).alloc _).alloc _).alloc _
  have b2 : Blk w1 (W4.heap.size + 1) 22 #[.int .u64 (t : Int)] := by rw [hw1]; exact ((blk_at (by simp)).alloc _).alloc _
  have b3 : Blk w1 (W4.heap.size + 1 + 1) 3 #[.int .i64 (n : Int)] := by rw [hw1]; exact (blk_at (by simp)).alloc _
  have b4 : Blk w1 (W4.heap.size + 1 + 1 + 1) 22 #[.int .u64 ((0 : Nat) : Int)] := by rw [hw1]; exact blk_at (by simp)
  have hs5 : w1.heap.size = W4.heap.size + 1 + 1 + 1 + 1 := by rw [hw1]; simp
  clear hw1
  rw [hs4] at b1 b2 b3 b4 hs5 ⊢
  have hE9 := hE4.trans hE5
  have ho9 := ho4.ext hE5
  have hr9 := own_ext hr4 hE5
  clear hE4 hE5 ho4 hr4
  gi_wp2_with fail
  refine range_out (ttree_gen (b := 0) (g1 := w.heap.size + 1 + 1 + 1) (g2 := w.heap.size + 1 + 1 + 1 + 1) (g3 := w.heap.size + 1 + 1 + 1 + 1 + 1) (g4 := w.heap.size + 1 + 1 + 1 + 1 + 1 + 1) hM hZ hn hT (base_0 hn).1 (base_0 hn).2) rfl (enters_of Tryd.func74 (by kernel_rfl) rfl) (fun W' h => UnW.ext ⟨hE9, b1, b2, b3, b4⟩ h) hE9.size (fun k => k = w.heap.size + 1 + 1) (some (w.heap.size + 1))
    (fun k h => by omega) (fun k h => ?bx) (fun k h => by injection h with h; omega) (fun _ => rfl)
    (ColI KU w (w.heap.size + 1 + 1) 75 fun q => t :: lnk q) (fun _ _ _ _ => False) ColI.own (ColI.abd (by omega) (by omega)) (fun c s O' W1 W' h st => h) ⟨_, rfl, ho9, by show w1.ownsRow w.heap.size KU.e KU.sz _ (t :: lnk []).length (KU.flat (t :: lnk [])); rw [lnk_0]; exact hr9, hE9⟩ ?round ?done ?stop
  case bx =>
    have hk : k = w.heap.size + 1 + 1 + 1 ∨ k = w.heap.size + 1 + 1 + 1 + 1 ∨ k = w.heap.size + 1 + 1 + 1 + 1 + 1 ∨ k = w.heap.size + 1 + 1 + 1 + 1 + 1 + 1 := by simpa using h
    exact ⟨by omega, by omega, fun q => by injection q with q; omega⟩
  case done =>
    rintro D O' W hD hDO ⟨v, rfl, hv, hr, hE⟩ hK
    replace hr : W.ownsRow w.heap.size KU.e KU.sz v (t :: lnk (unL L n t 0)).length (KU.flat (t :: lnk (unL L n t 0))) := hr
    rw [← frs_un L n t 0] at hr
    have hq : W.cell? _ = _ := hv.cell 0
    have hT := turn_put (B := w1.heap.size) (.deferred none) hD hK rfl
    gi_wp2
    refine ⟨by simp, .inl ⟨_, _, rfl, run_takeDeferred hK, ?_⟩⟩
    obtain ⟨A, c, rfl, r, -⟩ := own_rowv ku_ok (hT.own hr)
    exact ⟨_, results_tmp rfl _ _ _, A, c, rfl, r, hT.ext hE (by omega)⟩
  case stop =>
    rintro D c pre O' W hD hDO hp h
    exact h.elim
  case round =>
    rintro l3 q ⟨a2, s2⟩ post O3 W3 hl3 hx3 ⟨v, rfl, hv, hr, hE3⟩ hlt hol hr3
    have hcnt := lnk_few (pre := q) (post := (a2, s2) :: post) (b := 0) hT hx3
    have hsn := frs_snoc t q (a2, s2)
    have hsk := frs_skip t q (a2, s2)
    have cl := fun W => link_c s2.pt W
    simp only [encU]
    simp only at hsn hsk
    have k2 : Blk (W3.alloc (.cells #[.int .u64 0, .int .i64 0, .bool false, .bool false, .bool false, .bool false, .bool false, .bool false, .bool false, .bool false, .int .u64 0, .int .u64 0, .int .u64 0] 65)) W3.heap.size 65 #[.int .u64 0, .int .i64 0, .bool false, .bool false, .bool false, .bool false, .bool false, .bool false, .bool false, .bool false, .int .u64 0, .int .u64 0, .int .u64 0] := Blk.new W3 _ _
    have hX : Ext W3 ((W3.alloc (.cells #[.int .u64 0, .int .i64 0, .bool false, .bool false, .bool false, .bool false, .bool false, .bool false, .bool false, .bool false, .int .u64 0, .int .u64 0, .int .u64 0] 65)).setRow W3.heap.size (sptC s2)) := ((Ext.refl W3).alloc _).row (Nat.le_refl _) _
    have HX := Lib.hid hX
    clear hX
    refine region_round (by rfl) (fun ⟨_, _, h⟩ => h) ?_
    go_wp2_with (refine wpList_store_blk rfl 65 _ _ rfl rfl rfl k2 (spt_info _) (by simp [sptC_size]) (sptC_one _) ?_)
    have hX := HX.out
    refine ⟨hX, ?_⟩
    intro W4 st rr hr4 hk4
    have hB := blk_keep hk4 (k2.row (sptC s2))
    have hstW : Stp l3 v.ownBlock W3 W4 := (Stp.ext hX).trans st
    have hz10 := hstW.size
    replace hv := hstW.blk hv (.inl (by omega))
    replace hr := hstW.own hr
    replace hE3 := Below.trans hE3 (hstW.below (show w.heap.size ≤ l3 by omega) (by omega))
    clear hr3 hX k2 hk4 st hstW hr4
    have hr0 := hr
    have hE0 := hE3
    gi_wp2_with (refine wpListIn_load_part (fun _ => trivial) (by rfl) 53 _ rfl rfl hB (sptC_pt s2) Tryd.underlying53 rfl (pt_info _) ?_)
    refine ⟨trivial, (CallsIn.inRound l3 (callsIn_wide.2 (cl _))).mono ?_⟩
    rintro e W5 ⟨rfl, hE⟩
    have hR : Rnd (fun k => k = w.heap.size + 1 + 1) v.ownBlock v.ownBlock W4 W5 := Rnd.ext hE
    replace hv := hv.ext hE
    replace hr := own_ext hr hE
    replace hB := hB.ext hE
    replace hE3 := Below.trans hE3 (Below.mono hE (show w.heap.size ≤ _ from hE3.size))
    clear hE cl b1 b2 b3 b4 hE9 ho9 hr9
    have hlen : (t :: lnk q).length ≤ 64 := by simp; omega
    cases hk : linkB s2.pt
    · have e := hsk hk
      clear hsn hsk hk hcnt
      gi_wp2
      exact ⟨_, hR, v, rfl, hv, by simp only [e]; exact hr, hE3⟩
    · have e := Lib.hid (hsn hk)
      have xl := hv.cell 0
      have xp := (hB.cell 11).trans (sptC_pp s2)
      have hA := (Ext.refl W5).alloc (.cells #[.int .u64 (s2.pt.pp : Int)] 22)
      have hrA := own_ext hr hA
      have hvA := hv.ext hA
      have r4 : RowV KU (W5.alloc (.cells #[.int .u64 (s2.pt.pp : Int)] 22)) (some ⟨W5.heap.size, 0, none⟩) [s2.pt.pp] 1 := row_new W5 s2.pt.pp
      obtain ⟨v5, w5, hrun, hown5, hg5, hor⟩ := run_append_row ku_ok _ w.heap.size v _ _ hrA _ _ 1 r4 (by show (_ + 1) * 8 ≤ _; omega) (by show _ + 1 ≤ _; unfold maxLen; omega) (Nat.le_trans hE3.size hA.size) 75
      have hv5 := grw_blk hg5 hvA (own_type hrA hvA (by decide))
      obtain ⟨A5, c5, rfl⟩ := own_slice hown5
      have HR := Lib.hid (hR.trans (Rnd.ext hA))
      clear hsn hsk hk hcnt hR hr hv r4
      gi_wp2_with (first | (refine wpListIn_store_cell (es := #[.slice A5 _ c5]) (fun _ => trivial) (by rfl) 75 _ _ rfl rfl rfl hv5 (by simp) (by rfl) (by kernel_rfl) rfl rfl ?_) | (refine wpListIn_append (fun _ => trivial) (by rfl) rfl rfl rfl (hrun) ?_))
      exact col_end (by decide) (by omega) hE0 HR.out hvA hrA hr0 hg5 hown5 hor e.out
theorem lvs_0 : lvs [] = [] := by unfold lvs; rfl
theorem lvs_snoc (q : List (Nat × Spt)) (y : Nat × Spt) (h : leafB y.2.pt = true) : lvs (q ++ [y]) = lvs q ++ [pgS y] := by
  rw [lvs_app, lvs_cons, h, lvs_0]
  simp
theorem lvs_skip (q : List (Nat × Spt)) (y : Nat × Spt) (h : leafB y.2.pt = false) : lvs (q ++ [y]) = lvs q := by
  rw [lvs_app, lvs_cons, h, lvs_0]
  simp
set_option maxHeartbeats 4000000 in
/-- **table.Pages: every page of a right tree, in order.** -/
theorem tpages_c {S : Nat} {B : Option Addr} {L : List (Nat × Nat)} {d n t : Nat} (w : World) (hM : Mem w S B L d) (hn : n ≤ 2) (hT : TreeOk S L n t) (hZ : Siz w) :
    Calls Tryd.prog 21 #[.agg #[.int .u64 (S : Int), .slice B L.length d], .int .u64 (t : Int), .int .i64 (n : Int), .int .u64 0] w (MadeK KG (pgL L n t) w) := by
  unfold MadeK
  refine (callsIn_wide (n := 12)).1 ?_
  refine callsIn_of_wp_marks Tryd.func21 rfl trivial ?_ rfl
  simp only [Tryd.ntmps21, List.size_toArray, List.length_cons, List.length_nil, Nat.reduceAdd, Nat.reduceSub, Array.replicate_succ, Array.replicate_zero, List.push_toArray, List.append_toArray, List.nil_append, List.cons_append]
  gi_wp2_with fail
  refine ⟨trivial, ?_⟩
  obtain ⟨W4, hW4⟩ : ∃ W4, W4 = (w.alloc (.cells #[.int .u64 (S : Int), .slice B L.length d] 25)).alloc (.cells #[.slice none 0 0] 44) := ⟨_, rfl⟩
  have hs4 : W4.heap.size = w.heap.size + 1 + 1 := by rw [hW4]; simp
  have hE4 : Ext w W4 := by rw [hW4]; exact ((Ext.refl w).alloc _).alloc _
  have ho4 : Blk W4 (w.heap.size + 1) 44 #[.slice none 0 0] := by rw [hW4]; exact blk_at (by simp)
  rw [← hW4]
  clear hW4
  refine (callsIn_wide.2 (ttree_c S B L.length d t n 0 W4)).mono ?_
  rintro e w1 ⟨rfl, hw1⟩
  have hE5 : Ext W4 w1 := by rw [hw1]; exact ((((Ext.refl W4).alloc _).alloc _).alloc _).alloc _
  have b1 : Blk w1 W4.heap.size 25 #[.int .u64 (S : Int), .slice B L.length d] := by rw [hw1]; exact (((Blk.new W4 _ _).alloc _).alloc _).alloc _
  have b2 : Blk w1 (W4.heap.size + 1) 22 #[.int .u64 (t : Int)] := by rw [hw1]; exact ((blk_at (by simp)).alloc _).alloc _
  have b3 : Blk w1 (W4.heap.size + 1 + 1) 3 #[.int .i64 (n : Int)] := by rw [hw1]; exact (blk_at (by simp)).alloc _
  have b4 : Blk w1 (W4.heap.size + 1 + 1 + 1) 22 #[.int .u64 ((0 : Nat) : Int)] := by rw [hw1]; exact blk_at (by simp)
  have hs5 : w1.heap.size = W4.heap.size + 1 + 1 + 1 + 1 := by rw [hw1]; simp
  clear hw1
  rw [hs4] at b1 b2 b3 b4 hs5 ⊢
  have hE9 := hE4.trans hE5
  have ho9 := ho4.ext hE5
  clear hE4 hE5 ho4
  gi_wp2_with fail
  refine range_out (ttree_gen (b := 0) (g1 := w.heap.size + 1 + 1) (g2 := w.heap.size + 1 + 1 + 1) (g3 := w.heap.size + 1 + 1 + 1 + 1) (g4 := w.heap.size + 1 + 1 + 1 + 1 + 1) hM hZ hn hT (base_0 hn).1 (base_0 hn).2) rfl (enters_of Tryd.func74 (by kernel_rfl) rfl) (fun W' h => UnW.ext ⟨hE9, b1, b2, b3, b4⟩ h) hE9.size (fun k => k = w.heap.size + 1) none
    (fun k h => by omega) (fun k h => ?bx) (fun k h => by cases h) (fun _ => rfl)
    (ColI KG w (w.heap.size + 1) 44 lvs) (fun _ _ _ _ => False) ColI.own (ColI.abd (by omega) (by omega)) (fun c s O' W1 W' h st => h) ⟨_, rfl, ho9, by rw [lvs_0]; exact ⟨rfl, .inl ⟨rfl, rfl⟩⟩, hE9⟩ ?round ?done ?stop
  case bx =>
    have hk : k = w.heap.size + 1 + 1 ∨ k = w.heap.size + 1 + 1 + 1 ∨ k = w.heap.size + 1 + 1 + 1 + 1 ∨ k = w.heap.size + 1 + 1 + 1 + 1 + 1 := by simpa using h
    exact ⟨by omega, by omega, fun q => by cases q⟩
  case done =>
    rintro D O' W hD hDO ⟨v, rfl, hv, hr, hE⟩ hK
    rw [← pgK_un L n t 0, ← pgL_K] at hr
    have hq : W.cell? _ = _ := hv.cell 0
    have hT := turn_put (B := w1.heap.size) (.deferred none) hD hK rfl
    gi_wp2
    refine ⟨by simp, .inl ⟨_, _, rfl, run_takeDeferred hK, ?_⟩⟩
    exact ⟨_, results_tmp rfl _ _ _, v, rfl, hT.own hr, hT.ext hE (by omega)⟩
  case stop =>
    rintro D c pre O' W hD hDO hp h
    exact h.elim
  case round =>
    rintro l3 q ⟨a2, s2⟩ post O3 W3 hl3 hx3 ⟨v, rfl, hv, hr, hE3⟩ hlt hol hr3
    have hcnt := lvs_few (pre := q) (post := (a2, s2) :: post) (b := 0) hT hx3
    have hsn := lvs_snoc q (a2, s2)
    have hsk := lvs_skip q (a2, s2)
    have hin := un_in hn hT (base_0 hn).1 (base_0 hn).2 (a2, s2) (by rw [hx3]; simp)
    have cl := fun W => leaf_c s2.pt W
    have cpg := fun W => tpage_c (s := s2) hin.lt hin.d4 (by obtain ⟨i, -, e⟩ := hin.pt; rw [e]; exact tE_pp _ _ _) W
    simp only [encU]
    simp only at hsn hsk
    clear hin
    have k2 : Blk (W3.alloc (.cells #[.int .u64 0, .int .i64 0, .bool false, .bool false, .bool false, .bool false, .bool false, .bool false, .bool false, .bool false, .int .u64 0, .int .u64 0, .int .u64 0] 65)) W3.heap.size 65 #[.int .u64 0, .int .i64 0, .bool false, .bool false, .bool false, .bool false, .bool false, .bool false, .bool false, .bool false, .int .u64 0, .int .u64 0, .int .u64 0] := Blk.new W3 _ _
    have hX : Ext W3 ((W3.alloc (.cells #[.int .u64 0, .int .i64 0, .bool false, .bool false, .bool false, .bool false, .bool false, .bool false, .bool false, .bool false, .int .u64 0, .int .u64 0, .int .u64 0] 65)).setRow W3.heap.size (sptC s2)) := ((Ext.refl W3).alloc _).row (Nat.le_refl _) _
    refine wpIn_seq (region_round (by rfl) (fun ⟨_, _, h⟩ => h) ?_)
    go_wp2
    refine region_round (by rfl) (fun ⟨_, _, h⟩ => h) ?_
    go_wp2_with (refine wpList_store_blk rfl 65 _ _ rfl rfl rfl k2 (spt_info _) (by simp [sptC_size]) (sptC_one _) ?_)
    refine ⟨hX, ?_⟩
    intro W4 st rr hr4 hk4
    have hB := blk_keep hk4 (k2.row (sptC s2))
    have hstW : Stp l3 v.ownBlock W3 W4 := (Stp.ext hX).trans st
    have hz10 := hstW.size
    replace hv := hstW.blk hv (.inl (by omega))
    replace hr := hstW.own hr
    replace hE3 := Below.trans hE3 (hstW.below (show w.heap.size ≤ l3 by omega) (by omega))
    clear hr3 hX k2 hk4 st hstW hr4
    have hr0 := hr
    have hE0 := hE3
    gi_wp2_with (refine wpListIn_load_part (fun _ => trivial) (by rfl) 53 _ rfl rfl hB (sptC_pt s2) Tryd.underlying53 rfl (pt_info _) ?_)
    refine ⟨trivial, (CallsIn.inRound l3 (callsIn_wide.2 (cl _))).mono ?_⟩
    rintro e W5 ⟨rfl, hE⟩
    have hR : Rnd (fun k => k = w.heap.size + 1) v.ownBlock v.ownBlock W4 W5 := Rnd.ext hE
    replace hv := hv.ext hE
    replace hr := own_ext hr hE
    replace hB := hB.ext hE
    replace hE3 := Below.trans hE3 (Below.mono hE (show w.heap.size ≤ _ from hE3.size))
    clear hE cl b1 b2 b3 b4 hE9 ho9
    cases hk : leafB s2.pt
    · have e := hsk hk
      clear hsn hsk hk hcnt cpg
      gi_wp2
      exact ⟨_, hR, v, rfl, hv, by rw [e]; exact hr, hE3⟩
    · have e := Lib.hid (hsn hk)
      clear hsn hsk hk
      generalize pgS (a2, s2) = X at *
      have hfo := pg_fold X
      gi_wp2_with fail
      refine region_load_round (Sto v.ownBlock (w.heap.size + 1)) (fun a' W => a'.tmps[9]? = some (.pointer (some ⟨w.heap.size + 1, 0, none⟩)) ∧ Blk W (w.heap.size + 1) 44 #[v]) 22 v 0 [([(1, false), (2, false)], 3), ([], 4)] [] [(5, true), (6, true)] (by rfl) (fun ⟨_, _, h⟩ => h) (by kernel_rfl) (by kernel_rfl) (Sto.refl _ _) (fun _ _ _ => Sto.trans) (fun a' W h => by have hq : W.cell? _ = _ := h.2.cell 0; simp [nth, go_sem, execOp, Act.eval, h.1, hq]) (fun _ => rfl) rfl ?_
      simp only [loadB, List.map, nth_z, nth_s]
      have hE := (Ext.refl W5).drew
      replace hv := hv.drew
      replace hr := own_ext hr hE
      replace hB := hB.drew
      replace hR := hR.trans (Rnd.ext hE)
      replace hE3 := Below.trans hE3 (Below.mono hE (show w.heap.size ≤ _ from hE3.size))
      clear hE
      generalize W5.drew = W6 at *
      have vn3 := own_type (t := 65) hr hB (by decide)
      have hgB : W3.heap.size ≠ w.heap.size + 1 := by omega
      intro y
      (try simp only [Act.put, List.setIfInBounds_toArray, List.set_cons_zero, List.set_cons_succ])
      (repeat (first | (refine seq_skip (by rfl) ?_; intro K hK; simp only [Act.put, List.setIfInBounds_toArray, List.set_cons_zero, List.set_cons_succ]; refine hK _ ?_; clear hK K) | (refine seq_skipc (by rfl) ?_; intro K hK; simp only [Act.put, List.setIfInBounds_toArray, List.set_cons_zero, List.set_cons_succ]; refine hK _ ?_; clear hK K) | (refine seq_read (by rfl) (by rfl) ?_; intro K hK; go_big_quiet_op; first | go_big_quiet_on | (refine ⟨_, fun _ _ => rfl, ?_⟩; go_big_quiet_on))))
      refine seq_load rfl rfl (fun x hx => hx.blk hB hgB vn3) rfl Tryd.underlying65 (spt_info _) (by rfl) ?_; intro K hK; simp only [Act.put, List.setIfInBounds_toArray, List.set_cons_zero, List.set_cons_succ]; refine hK _ ?_; clear hK K
      refine seq_done ⟨⟨rfl, hv⟩, rfl, ?_⟩
      intro y
      (try simp only [Act.put, List.setIfInBounds_toArray, List.set_cons_zero, List.set_cons_succ])
      refine seq_call (cpg _) rfl Tryd.func50 (by kernel_rfl) (by kernel_rfl) (by rfl) (by rfl) ?_; intro K hK; rintro e w' ⟨rfl, hY⟩; refine ⟨_, rfl, (Sto.ext hY), ?_⟩; simp only [Act.put, List.setIfInBounds_toArray, List.set_cons_zero, List.set_cons_succ]; refine hK _ _ ?_; clear hK K
      replace hv := hv.ext hY
      replace hr := own_ext hr hY
      replace hR := hR.trans (Rnd.ext hY)
      replace hE3 := Below.trans hE3 (Below.mono hY (show w.heap.size ≤ _ from hE3.size))
      clear hY
      refine seq_done ⟨⟨rfl, hv⟩, rfl, ?_⟩
      intro y
      (try simp only [Act.put, List.setIfInBounds_toArray, List.set_cons_zero, List.set_cons_succ])
      refine seq_done ⟨⟨rfl, hv⟩, rfl, ?_⟩
      intro y
      (try simp only [Act.put, List.setIfInBounds_toArray, List.set_cons_zero, List.set_cons_succ])
      have hY : Ext w' (w'.alloc (.cells (pgC X) 49)) := (Ext.refl w').alloc _
      refine seq_run (.slice (some ⟨w'.heap.size, 0, none⟩) 1 1) (w'.alloc (.cells (pgC X) 49)) (by rfl) ?_ (Sto.ext hY) ?_; (simp [go_sem, execOp, Act.eval, hfo, pgC_size]); intro K hK; simp only [Act.put, List.setIfInBounds_toArray, List.set_cons_zero, List.set_cons_succ]; refine hK _ _ ?_; clear hK K
      have r4 : RowV KG (w'.alloc (.cells (pgC X) 49)) (some ⟨w'.heap.size, 0, none⟩) [X] 1 := row_new w' X
      replace hv := hv.ext hY
      replace hr := own_ext hr hY
      replace hR := hR.trans (Rnd.ext hY)
      replace hE3 := Below.trans hE3 (Below.mono hY (show w.heap.size ≤ _ from hE3.size))
      generalize w'.alloc (.cells (pgC X) 49) = W7 at *
      generalize w'.heap.size = g7 at *
      clear hY hfo hB cpg
      refine seq_done ⟨⟨rfl, hv⟩, rfl, ?_⟩
      intro y
      (try simp only [Act.put, List.setIfInBounds_toArray, List.set_cons_zero, List.set_cons_succ])
      refine seq_done ⟨⟨rfl, hv⟩, rfl, ?_⟩
      (try simp only [Act.put, List.setIfInBounds_toArray, List.set_cons_zero, List.set_cons_succ])
      obtain ⟨v5, w5, hrun, hown5, hg5, hor⟩ := run_append_row kg_ok W7 w.heap.size v _ _ hr _ _ 1 r4 (by show (_ + 1) * 32 ≤ _; omega) (by show _ + 1 ≤ _; unfold maxLen; omega) hE3.size 44
      refine seq_append _ (w5) _ _ rfl rfl rfl rfl (by rfl) hrun (Sto.grown hg5) ?_; intro K hK; simp only [Act.put, List.setIfInBounds_toArray, List.set_cons_zero, List.set_cons_succ]; refine hK _ _ ?_; clear hK K
      have hv5 := grw_blk hg5 hv (own_type hr hv (by decide))
      obtain ⟨A5, c5, e5⟩ := own_slice hown5
      refine seq_store_one (es := #[v5]) rfl rfl rfl hv5 (by simp) rfl (by kernel_rfl) (by rw [e5]; rfl) (by rw [e5]; rfl) (by rfl) (Sto.row _ _ _) ?_; intro K hK; simp only [Act.put, List.setIfInBounds_toArray, List.set_cons_zero, List.set_cons_succ]; refine hK _ _ ?_; clear hK K
      refine seq_done ?_
      gi_wp2
      exact col_end (by decide) (by omega) hE0 hR hv hr hr0 hg5 hown5 hor e.out
end Go.Proofs.YtcllbidhjggjiaaDoor
