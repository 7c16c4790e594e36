/- Package table: Reach, by a goto. -/
import Derived.Test.YtcllbidhjggjiaaDoorCtaba
import Derived.Test.YtcllbidhjggjiaaDoorGite
import Derived.Test.YtcllbidhjggjiaaDoorGrtac
import Derived.Test.YtcllbidhjggjiaaDoorGfive
namespace Go.Proofs.YtcllbidhjggjiaaDoor
open Go.ChangeShapes Go.WideShapes Go.ChangeAt Go.RowKit
set_option linter.unusedVariables false
set_option linter.unusedSimpArgs false
set_option maxRecDepth 10000
section
variable {P : Program} {ops : Array Oper} {R : World → World → Prop} {Q : Exit → Act → World → Prop} {N : Act → World → Prop} {o : Oper} {r : List (Oper × Bool)} {a : Act} {w : World}
/-- a part of a known block stored, in a region walked once -/
theorem seq_put_part {ty t : TypeId} {x y : Operand} {g k : Nat} {cs ds es : Array Value} (hop : o.op = .store ty x y) (hx : a.eval x = .pointer (some ⟨g, k, none⟩)) (hy : a.eval y = .agg ds) (hb : Blk w g t cs) (hn : k + ds.size ≤ cs.size) (he : putAt cs k ds.toList = es)
    (hi : (P.info? ty).map (·.size) = some ds.size) (h1 : ds.all (·.oneCell') = true) (hw : Region.wanted o (yielded ops a.tmps) = true) (hR : R w (w.setRow g es))
    (k : ∀ K : Act → World → Prop, (∀ a' w', wpSeq P ops R Q N r a' w' → K a' w') → K (a.put o.dst undef) (w.setRow g es)) : wpSeq P ops R Q N ((o, true) :: r) a w :=
  seq_store (w.setRow g es) hw (by
    unfold execOp
    simp only [hop, hx, hy, Sem.run_bind, run_store_part ty hb hn he hi h1, Result.andThen_ok, Sem.run_pure]) hR k
end
attribute [local irreducible] World.setRow World.alloc Blk
/-- nothing turns but a spot's entry -/
def KeepSp (g tb : Nat) (lv : Int) (x y : World) : Prop := Gap g (g + 1) x y ∧ ((∃ q, Blk x g 65 (sptC ⟨tb, lv, q⟩)) → ∃ q, Blk y g 65 (sptC ⟨tb, lv, q⟩))
theorem KeepSp.refl (g tb : Nat) (lv : Int) (x : World) : KeepSp g tb lv x x := ⟨Gap.refl _ _ _, id⟩
theorem KeepSp.trans {g tb : Nat} {lv : Int} {x y z : World} (h : KeepSp g tb lv x y) (k : KeepSp g tb lv y z) : KeepSp g tb lv x z := ⟨h.1.trans k.1, fun q => k.2 (h.2 q)⟩
theorem KeepSp.ext {g tb : Nat} {lv : Int} {x y : World} (h : Ext x y) : KeepSp g tb lv x y := ⟨Gap.ext h, fun ⟨q, hq⟩ => ⟨q, hq.ext h⟩⟩
theorem KeepSp.put {g tb : Nat} {lv : Int} (x : World) (q : Pt) (hg : g < x.heap.size) : KeepSp g tb lv x (x.setRow g (sptC ⟨tb, lv, q⟩)) := ⟨Gap.row _ (Nat.le_refl _) (Nat.lt_succ_self _) _, fun ⟨p, hp⟩ => ⟨q, hp.row _⟩⟩
theorem KeepSp.tb {g tb : Nat} {lv : Int} {x y : World} {q : Pt} (h : KeepSp g tb lv x y) (hb : Blk x g 65 (sptC ⟨tb, lv, q⟩)) : y.cell? ⟨g, 0, none⟩ = some (.int .u64 (tb : Int)) := by
  obtain ⟨p, hp⟩ := h.2 ⟨q, hb⟩
  exact (hp.cell 0).trans (sptC_tb _)
theorem KeepSp.lv {g tb : Nat} {lv : Int} {x y : World} {q : Pt} (h : KeepSp g tb lv x y) (hb : Blk x g 65 (sptC ⟨tb, lv, q⟩)) : y.cell? ⟨g, 1, none⟩ = some (.int .i64 lv) := by
  obtain ⟨p, hp⟩ := h.2 ⟨q, hb⟩
  exact (hp.cell 1).trans (sptC_lv _)
/-- what holds at the label -/
def RcJ (S : Nat) (B : Option Addr) (L : List (Nat × Nat)) (d k a n t : Nat) (w : World) (a' : Act) (w' : World) : Prop :=
  ∃ (m s : Nat) (p0 : Pt) (u12 u13 u14 u15 u16 u17 u18 u19 u20 u21 u22 u23 u24 u25 u26 u27 u28 u29 u30 u31 u32 u33 u34 u35 u36 u37 u38 u39 u40 u41 u42 u43 u44 u45 : Value), a' = { tmps := #[.agg #[.int .u64 (S : Int), .slice B L.length d], .int .u64 (t : Int), .int .i64 (n : Int), .int .u64 (a : Int), .int .i64 (k : Int), .pointer (some ⟨w.heap.size, 0, none⟩), undef, undef, undef, undef, .pointer (some ⟨w.heap.size + 1, 0, none⟩), .pointer (some ⟨w.heap.size + 1 + 1, 0, none⟩), u12, u13, u14, u15, u16, u17, u18, u19, u20, u21, u22, u23, u24, u25, u26, u27, u28, u29, u30, u31, u32, u33, u34, u35, u36, u37, u38, u39, u40, u41, u42, u43, u44, u45], defers := [] } ∧
    m ≤ 2 ∧ spotW L k m s a = spotW L k n t a ∧ s < S / 4096 ∧ TreeOk S L m s ∧ Blk w' w.heap.size 25 #[.int .u64 (S : Int), .slice B L.length d] ∧ Blk w' (w.heap.size + 1) 65 #[.int .u64 0, .int .i64 0, .bool false, .bool false, .bool false, .bool false, .bool false, .bool false, .bool false, .bool false, .int .u64 0, .int .u64 0, .int .u64 0] ∧ Blk w' (w.heap.size + 1 + 1) 65 (sptC ⟨s, (m : Int), p0⟩) ∧ Ext w w'
def lvAt (g : Nat) (w' : World) : Nat := match w'.cell? ⟨g, 1, none⟩ with | some (Value.int _ q) => q.toNat | _ => 0
theorem lvAt_of {g : Nat} {w' : World} {s : Nat} {m : Nat} {p : Pt} (h : Blk w' g 65 (sptC ⟨s, (m : Int), p⟩)) : lvAt g w' = m := by
  unfold lvAt
  rw [h.cell 1, sptC_lv]
  simp
theorem sptC_pp9 (s : Spt) : (sptC s)[11]? = some (.int .u64 (s.pt.pp : Int)) := by simp only [sptC_eq, ptC_eq]; rfl
theorem spt_first (t n : Nat) : sptC ⟨t, (n : Int), ⟨false, false, false, false, false, false, false, false, 0, 0, 0⟩⟩ = #[.int .u64 (t : Int), .int .i64 (n : Int), .bool false, .bool false, .bool false, .bool false, .bool false, .bool false, .bool false, .bool false, .int .u64 0, .int .u64 0, .int .u64 0] := by simp only [sptC_eq, ptC_eq]; rfl
set_option maxHeartbeats 4000000 in
theorem treach_c {S : Nat} {B : Option Addr} {L : List (Nat × Nat)} {d k a n t : Nat} (ha : a < 18446744073709551616) (hn : n ≤ 2) (hk : k ≤ 2) (w : World) (hT : TreeOk S L n t) (hM : Mem w S B L d) (hZ : Siz w) :
    Calls Tryd.prog 29 #[.agg #[.int .u64 (S : Int), .slice B L.length d], .int .u64 (t : Int), .int .i64 (n : Int), .int .u64 (a : Int), .int .i64 (k : Int)] w fun r w' => r = .returned (.agg (sptC (spotW L k n t a))) ∧ Ext w w' := by
  have hMm : ∀ W : World, Ext w W → Mem W S B L d := fun W e => hM.ext e
  have hSle := hM.ok.le
  go_enter Tryd.func29, Tryd.ntmps29
  go_wp2
  refine wp_scope_back 0 (RcJ S B L d k a n t w) (fun _ w' => lvAt (w.heap.size + 1 + 1) w') ?_ ?_ ?_
  · rfl
  · go_wp2
    refine ⟨n, t, ⟨false, false, false, false, false, false, false, false, 0, 0, 0⟩, _, _, _, _, _, _, _, _, _, _, _, _, _, _, _, _, _, _, _, _, _, _, _, _, _, _, _, _, _, _, _, _, _, _, rfl, hn, rfl, hT.top, hT, ((Blk.new w _ _).alloc _).alloc _, (blk_at (by simp)).alloc _, ?_, (((Ext.refl w).alloc _).alloc _).alloc _⟩
    rw [spt_first]
    exact blk_at (by simp)
  · rintro a' w1 ⟨m, s, p0, u12, u13, u14, u15, u16, u17, u18, u19, u20, u21, u22, u23, u24, u25, u26, u27, u28, u29, u30, u31, u32, u33, u34, u35, u36, u37, u38, u39, u40, u41, u42, u43, u44, u45, ha', hm, hsp, hs, hTm, h1, k2, h3, hE⟩
    dsimp only at ha'
    subst ha'
    have hμ := lvAt_of h3
    simp only [hμ]
    have HE := Lib.hid hE
    clear hE hμ
    have l3 := h3.lt
    have hi := ixN_lt a m
    have cix := fun W => index5_c (a : Int) (m : Int) (by omega) (by omega) (by omega) (by omega) W
    rw [idx_ix] at cix
    have cpl := fun W => tplace_c (f := s) (i := ixN a m) (by omega) hi W
    have cw := fun W (q : Mem W S B L d) => word_x q (a := 8 * (512 * s + ixN a m)) (by omega)
    rw [show 8 * (512 * s + ixN a m) / 8 = 512 * s + ixN a m by omega] at cw
    have cg := fun W => get_pte (wordL L (512 * s + ixN a m)) (wordL_lt hM.rl _) W
    have e1 : tE L s (ixN a m) = getP (wordL L (512 * s + ixN a m)) := rfl
    rw [← e1] at cg
    clear e1
    have clk := fun W (k : Siz W) => tleads_c (tE L s (ixN a m)) (Pt.ok_tE hM.rl s _) m hm W k
    have hgo : goB L s (ixN a m) m = (linkB (tE L s (ixN a m)) && !badB (tE L s (ixN a m)) (m : Int)) := rfl
    rw [← hgo] at clk
    clear hgo
    obtain ⟨ix, hix⟩ : ∃ ix, ixN a m = ix := ⟨_, rfl⟩
    rw [hix] at cix cpl cw cg clk hi
    have HI := Lib.hid hix
    obtain ⟨p, hp⟩ : ∃ p, tE L s ix = p := ⟨_, rfl⟩
    rw [hp] at cg clk
    have HQ := Lib.hid hp
    have HP : Hid (tE L s (ixN a m) = p) := Lib.hid (by rw [hix]; exact hp)
    clear hix hp
    generalize wordL L (512 * s + ix) = v at *
    generalize 8 * (512 * s + ix) = A8 at *
    go_wp2_with fail
    refine wp_region_seq [(0, false), (1, false), (2, false), (3, false), (4, false), (5, false), (6, true), (7, true), (8, true), (9, true), (10, false), (11, true)] (KeepSp (w.heap.size + 1 + 1) s (m : Int)) (by kernel_rfl) (by kernel_rfl) (KeepSp.refl _ _ _) (fun _ _ _ => KeepSp.trans) ?_
    simp only [List.map, nth_z, nth_s]
    have hE := (Ext.refl w1).drew
    (try replace hm := hm.ext hE); (try replace h1 := h1.ext hE); (try replace h3 := h3.ext hE); (try replace h4 := h4.ext hE); (try replace k2 := k2.ext hE); (try replace hM := hM.ext hE); (try replace HE := Lib.hid (HE.out.trans hE)); (try replace r0 := r0.ext hE); (try replace r1 := r1.ext hE); (try replace r2 := r2.ext hE); (try replace r3 := r3.ext hE); (try replace r4 := r4.ext hE); (try replace r5 := r5.ext hE); (try replace r6 := r6.ext hE)
    clear hE
    generalize w1.drew = w2 at *
    refine seq_load rfl rfl (fun x hx => Gap.blk hx.1 h1 (by omega)) rfl Tryd.underlying25 (by kernel_rfl) (by rfl) ?_; intro K hK; simp only [Act.put, List.setIfInBounds_toArray, List.set_cons_zero, List.set_cons_succ]; refine hK _ ?_; clear hK K
    (repeat (first | (refine seq_skip (by rfl) ?_; intro K hK; simp only [Act.put, List.setIfInBounds_toArray, List.set_cons_zero, List.set_cons_succ]; refine hK _ ?_; clear hK K) | (refine seq_skipc (by rfl) ?_; intro K hK; simp only [Act.put, List.setIfInBounds_toArray, List.set_cons_zero, List.set_cons_succ]; refine hK _ ?_; clear hK K) | (refine seq_read (by rfl) (by rfl) ?_; intro K hK; go_big_quiet_op; first | go_big_quiet_on | (refine ⟨_, fun _ _ => rfl, ?_⟩; go_big_quiet_on))))
    refine seq_value (.int .u64 (s : Int)) (by rfl) (fun x hx => by have hq := hx.tb h3; simp [go_sem, execOp, Act.eval, hq]) ?_; intro K hK; simp only [Act.put, List.setIfInBounds_toArray, List.set_cons_zero, List.set_cons_succ]; refine hK _ ?_; clear hK K
    (repeat (first | (refine seq_skip (by rfl) ?_; intro K hK; simp only [Act.put, List.setIfInBounds_toArray, List.set_cons_zero, List.set_cons_succ]; refine hK _ ?_; clear hK K) | (refine seq_skipc (by rfl) ?_; intro K hK; simp only [Act.put, List.setIfInBounds_toArray, List.set_cons_zero, List.set_cons_succ]; refine hK _ ?_; clear hK K) | (refine seq_read (by rfl) (by rfl) ?_; intro K hK; go_big_quiet_op; first | go_big_quiet_on | (refine ⟨_, fun _ _ => rfl, ?_⟩; go_big_quiet_on))))
    refine seq_value (.int .i64 (m : Int)) (by rfl) (fun x hx => by have hq := hx.lv h3; simp [go_sem, execOp, Act.eval, hq]) ?_; intro K hK; simp only [Act.put, List.setIfInBounds_toArray, List.set_cons_zero, List.set_cons_succ]; refine hK _ ?_; clear hK K
    refine seq_call (calls_ext (cix _)) rfl Tryd.func58 (by kernel_rfl) (by kernel_rfl) (by rfl) (by rfl) ?_; intro K hK; rintro e w' ⟨rfl, hE⟩; refine ⟨_, rfl, (KeepSp.ext hE), ?_⟩; simp only [Act.put, List.setIfInBounds_toArray, List.set_cons_zero, List.set_cons_succ]; refine hK _ _ ?_; clear hK K
    (try replace hm := hm.ext hE); (try replace h1 := h1.ext hE); (try replace h3 := h3.ext hE); (try replace h4 := h4.ext hE); (try replace k2 := k2.ext hE); (try replace hM := hM.ext hE); (try replace HE := Lib.hid (HE.out.trans hE)); (try replace r0 := r0.ext hE); (try replace r1 := r1.ext hE); (try replace r2 := r2.ext hE); (try replace r3 := r3.ext hE); (try replace r4 := r4.ext hE); (try replace r5 := r5.ext hE); (try replace r6 := r6.ext hE)
    clear hE
    refine seq_call (calls_ext (cpl _)) rfl Tryd.func57 (by kernel_rfl) (by kernel_rfl) (by rfl) (by rfl) ?_; intro K hK; rintro e w' ⟨rfl, hE⟩; refine ⟨_, rfl, (KeepSp.ext hE), ?_⟩; simp only [Act.put, List.setIfInBounds_toArray, List.set_cons_zero, List.set_cons_succ]; refine hK _ _ ?_; clear hK K
    (try replace hm := hm.ext hE); (try replace h1 := h1.ext hE); (try replace h3 := h3.ext hE); (try replace h4 := h4.ext hE); (try replace k2 := k2.ext hE); (try replace hM := hM.ext hE); (try replace HE := Lib.hid (HE.out.trans hE)); (try replace r0 := r0.ext hE); (try replace r1 := r1.ext hE); (try replace r2 := r2.ext hE); (try replace r3 := r3.ext hE); (try replace r4 := r4.ext hE); (try replace r5 := r5.ext hE); (try replace r6 := r6.ext hE)
    clear hE
    refine seq_call (cw _ (hMm _ HE.out)) rfl Tryd.func56 (by kernel_rfl) (by kernel_rfl) (by rfl) (by rfl) ?_; intro K hK; rintro e w' ⟨rfl, hE⟩; refine ⟨_, rfl, (KeepSp.ext hE), ?_⟩; simp only [Act.put, List.setIfInBounds_toArray, List.set_cons_zero, List.set_cons_succ]; refine hK _ _ ?_; clear hK K
    (try replace hm := hm.ext hE); (try replace h1 := h1.ext hE); (try replace h3 := h3.ext hE); (try replace h4 := h4.ext hE); (try replace k2 := k2.ext hE); (try replace hM := hM.ext hE); (try replace HE := Lib.hid (HE.out.trans hE)); (try replace r0 := r0.ext hE); (try replace r1 := r1.ext hE); (try replace r2 := r2.ext hE); (try replace r3 := r3.ext hE); (try replace r4 := r4.ext hE); (try replace r5 := r5.ext hE); (try replace r6 := r6.ext hE)
    clear hE
    refine seq_call (cg _) rfl Tryd.func55 (by kernel_rfl) (by kernel_rfl) (by rfl) (by rfl) ?_; intro K hK; rintro e w' ⟨rfl, hE⟩; refine ⟨_, rfl, (KeepSp.ext hE), ?_⟩; simp only [Act.put, List.setIfInBounds_toArray, List.set_cons_zero, List.set_cons_succ]; refine hK _ _ ?_; clear hK K
    (try replace hm := hm.ext hE); (try replace h1 := h1.ext hE); (try replace h3 := h3.ext hE); (try replace h4 := h4.ext hE); (try replace k2 := k2.ext hE); (try replace hM := hM.ext hE); (try replace HE := Lib.hid (HE.out.trans hE)); (try replace r0 := r0.ext hE); (try replace r1 := r1.ext hE); (try replace r2 := r2.ext hE); (try replace r3 := r3.ext hE); (try replace r4 := r4.ext hE); (try replace r5 := r5.ext hE); (try replace r6 := r6.ext hE)
    clear hE
    (repeat (first | (refine seq_skip (by rfl) ?_; intro K hK; simp only [Act.put, List.setIfInBounds_toArray, List.set_cons_zero, List.set_cons_succ]; refine hK _ ?_; clear hK K) | (refine seq_skipc (by rfl) ?_; intro K hK; simp only [Act.put, List.setIfInBounds_toArray, List.set_cons_zero, List.set_cons_succ]; refine hK _ ?_; clear hK K) | (refine seq_read (by rfl) (by rfl) ?_; intro K hK; go_big_quiet_op; first | go_big_quiet_on | (refine ⟨_, fun _ _ => rfl, ?_⟩; go_big_quiet_on))))
    have l3' := h3.lt
    refine seq_put_part rfl rfl rfl h3 (by simp [sptC_size, ptC_size]) (sptC_set_pt _ p) (pt_info _) (ptC_one _) (by rfl) (KeepSp.put _ p l3') ?_; intro K hK; simp only [Act.put, List.setIfInBounds_toArray, List.set_cons_zero, List.set_cons_succ]; refine hK _ _ ?_; clear hK K
    refine seq_done ?_
    replace h3 := h3.row (sptC ⟨s, (m : Int), p⟩)
    replace h1 := h1.apart (show w.heap.size ≠ w.heap.size + 1 + 1 by omega) (sptC ⟨s, (m : Int), p⟩)
    replace k2 := k2.apart (show w.heap.size + 1 ≠ w.heap.size + 1 + 1 by omega) (sptC ⟨s, (m : Int), p⟩)
    replace HE := Lib.hid (HE.out.row (show w.heap.size ≤ w.heap.size + 1 + 1 by omega) (sptC ⟨s, (m : Int), p⟩))
    generalize World.setRow _ (w.heap.size + 1 + 1) (sptC ⟨s, (m : Int), p⟩) = w4 at *
    clear cix cpl cw cg hi l3 l3'
    have hx := (h3.cell 1).trans (sptC_lv _)
    by_cases hkn : k < m
    case neg =>
      have dk : decide ((k : Int) < (m : Int)) = false := by simp; omega
      have dk2 : decide (k < m) = false := by simp; omega
      have hq := Lib.hid (spotW_no (L := L) (k := k) (n := m) (t := s) (a := a) fun h => hkn h.1)
      clear hkn clk
      go_wp2_with (first | (refine wpList_load_blk (by rfl) 65 _ rfl rfl h3 Tryd.underlying65 rfl (by kernel_rfl) ?_) | (refine wpList_store_blk rfl 65 _ _ rfl rfl rfl k2 (spt_info _) (by simp [sptC_size]) (sptC_one _) ?_))
      simp only [Exit.jump]
      (try simp only [Exit.inBlock, Exit.then]); (try rw [Exit.noGoto_ret]); refine bodyPost_ret (results_cell_row rfl _ _ _ _ _ _ _ rfl ((k2.row _).mem19) Tryd.underlying65 rfl (spt_info _)) rfl ?_
      exact ⟨by rw [← hsp, hq.out, HP.out], HE.out.row (by omega) _⟩
    have dk : decide ((k : Int) < (m : Int)) = true := by simp; omega
    have dk2 : decide (k < m) = true := by simp; omega
    cases hg : goB L s ix m
    · have hq := Lib.hid (spotW_no (L := L) (k := k) (n := m) (t := s) (a := a) fun h => by rw [HI.out, hg] at h; cases h.2)
      rw [hg] at clk
      clear hkn hg
      go_wp2_with (refine wpList_load_part (by rfl) 53 _ rfl rfl h3 (sptC_pt ⟨s, (m : Int), p⟩) Tryd.underlying53 rfl (pt_info _) ?_)
      refine (clk _ (hZ.ext HE.out)).mono ?_
      rintro e w' ⟨rfl, hE⟩
      (try replace hm := hm.ext hE); (try replace h1 := h1.ext hE); (try replace h3 := h3.ext hE); (try replace h4 := h4.ext hE); (try replace k2 := k2.ext hE); (try replace hM := hM.ext hE); (try replace HE := Lib.hid (HE.out.trans hE)); (try replace r0 := r0.ext hE); (try replace r1 := r1.ext hE); (try replace r2 := r2.ext hE); (try replace r3 := r3.ext hE); (try replace r4 := r4.ext hE); (try replace r5 := r5.ext hE); (try replace r6 := r6.ext hE)
      clear hE clk
      go_wp2_with (first | (refine wpList_load_blk (by rfl) 65 _ rfl rfl h3 Tryd.underlying65 rfl (by kernel_rfl) ?_) | (refine wpList_store_blk rfl 65 _ _ rfl rfl rfl k2 (spt_info _) (by simp [sptC_size]) (sptC_one _) ?_))
      simp only [Exit.jump]
      (try simp only [Exit.inBlock, Exit.then]); (try rw [Exit.noGoto_ret]); refine bodyPost_ret (results_cell_row rfl _ _ _ _ _ _ _ rfl ((k2.row _).mem19) Tryd.underlying65 rfl (spt_info _)) rfl ?_
      exact ⟨by rw [← hsp, hq.out, HP.out], HE.out.row (by omega) _⟩
    · obtain ⟨m', hm'⟩ : ∃ m', m = m' + 1 := ⟨m - 1, by omega⟩
      have hq : Hid (spotW L k m s a = spotW L k m' p.pp a) := Lib.hid (by
        rw [← HP.out]
        subst hm'
        exact spotW_go (by omega) (by rw [HI.out]; exact hg))
      have hTc : TreeOk S L m' p.pp := by
        rw [← HQ.out]
        subst hm'
        have hi2 := ixN_lt a (m' + 1)
        rw [HI.out] at hi2
        exact (hTm.child hi2 hg).1
      rw [hg] at clk
      have hs9 : (m : Int) - 1 = (m' : Int) := by omega
      have Hlt : Hid (m' < m) := Lib.hid (by omega)
      have hm2 : m' ≤ 2 := by omega
      clear hkn hg hm'
      go_wp2_with (refine wpList_load_part (by rfl) 53 _ rfl rfl h3 (sptC_pt ⟨s, (m : Int), p⟩) Tryd.underlying53 rfl (pt_info _) ?_)
      refine (clk _ (hZ.ext HE.out)).mono ?_
      rintro e w' ⟨rfl, hE⟩
      (try replace hm := hm.ext hE); (try replace h1 := h1.ext hE); (try replace h3 := h3.ext hE); (try replace h4 := h4.ext hE); (try replace k2 := k2.ext hE); (try replace hM := hM.ext hE); (try replace HE := Lib.hid (HE.out.trans hE)); (try replace r0 := r0.ext hE); (try replace r1 := r1.ext hE); (try replace r2 := r2.ext hE); (try replace r3 := r3.ext hE); (try replace r4 := r4.ext hE); (try replace r5 := r5.ext hE); (try replace r6 := r6.ext hE)
      replace hx := ext_cell hE hx
      clear hE clk
      have xp := (h3.cell 11).trans (sptC_pp9 ⟨s, (m : Int), p⟩)
      have hr1 := h3.row (sptC ⟨p.pp, (m : Int), p⟩)
      go_wp2_with (first | (refine wpList_store_cell rfl 22 _ _ rfl rfl rfl h3 (by simp [sptC_size]) (sptC_set_tb ⟨s, (m : Int), p⟩ p.pp) (by kernel_rfl) rfl rfl ?_) | (refine wpList_store_cell rfl 3 _ _ rfl rfl rfl hr1 (by simp [sptC_size]) (sptC_set_lv ⟨p.pp, (m : Int), p⟩ (m' : Int)) (by kernel_rfl) rfl rfl ?_))
      simp only [Act.put, List.setIfInBounds_toArray, List.set_cons_zero, List.set_cons_succ]
      have h4 := hr1.row (sptC ⟨p.pp, (m' : Int), p⟩)
      have h14 := (h1.apart (show w.heap.size ≠ w.heap.size + 1 + 1 by omega) (sptC ⟨p.pp, (m : Int), p⟩)).apart (show w.heap.size ≠ w.heap.size + 1 + 1 by omega) (sptC ⟨p.pp, (m' : Int), p⟩)
      have k24 := (k2.apart (show w.heap.size + 1 ≠ w.heap.size + 1 + 1 by omega) (sptC ⟨p.pp, (m : Int), p⟩)).apart (show w.heap.size + 1 ≠ w.heap.size + 1 + 1 by omega) (sptC ⟨p.pp, (m' : Int), p⟩)
      have HE4 := Lib.hid ((HE.out.row (show w.heap.size ≤ w.heap.size + 1 + 1 by omega) (sptC ⟨p.pp, (m : Int), p⟩)).row (show w.heap.size ≤ w.heap.size + 1 + 1 by omega) (sptC ⟨p.pp, (m' : Int), p⟩))
      have hμ4 := lvAt_of h4
      generalize (w'.setRow (w.heap.size + 1 + 1) (sptC ⟨p.pp, (m : Int), p⟩)).setRow (w.heap.size + 1 + 1) (sptC ⟨p.pp, (m' : Int), p⟩) = w6 at *
      go_step3
      refine ⟨rfl, ⟨m', p.pp, p, _, _, _, _, _, _, _, _, _, _, _, _, _, _, _, _, _, _, _, _, _, _, _, _, _, _, _, _, _, _, _, _, _, _, rfl, by omega, by rw [← hq.out]; exact hsp, hTc.top, hTc, h14, k24, h4, HE4.out⟩, ?_⟩
      rw [hμ4]
      exact Hlt.out
end Go.Proofs.YtcllbidhjggjiaaDoor
