/- The document's answers for layer 19 (atlasref19): Reach, Pages, Same, Fresh, Back. -/
import Derived.Test.YticbjiddbjgikaaDoorLaw19a
import Derived.Test.YticbjiddbjgikaaDoorGrpoo
import Derived.Test.YticbjiddbjgikaaDoorMtabd
import Derived.Test.YticbjiddbjgikaaDoorGflo
namespace Go.Proofs.YticbjiddbjgikaaDoor
open Go.ChangeShapes Go.WideShapes Go.ChangeAt Go.RowKit
set_option linter.unusedVariables false
set_option linter.unusedSimpArgs false
set_option maxRecDepth 10000

/-- the spot of an address, of whatever level -/
def spotW (L : List (Nat × Nat)) (k n t a : Nat) : Spt := ⟨(reachT L a k n t).1, ((reachT L a k n t).2 : Int), tE L (reachT L a k n t).1 (ixN a (reachT L a k n t).2)⟩
theorem spotW_go {L : List (Nat × Nat)} {k n t a : Nat} (h : k < n + 1) (hg : goB L t (ixN a (n + 1)) (n + 1) = true) : spotW L k (n + 1) t a = spotW L k n (tE L t (ixN a (n + 1))).pp a := by
  unfold spotW; rw [reachT, if_pos ⟨h, hg⟩]
theorem spotW_no {L : List (Nat × Nat)} {k n t a : Nat} (h : ¬ (k < n ∧ goB L t (ixN a n) n = true)) : spotW L k n t a = ⟨t, (n : Int), tE L t (ixN a n)⟩ := by
  unfold spotW
  cases n with
  | zero => rfl
  | succ n => rw [reachT, if_neg h]
theorem idx_ix (a n : Nat) : idxI (a : Int) (n : Int) = ((ixN a n : Nat) : Int) := by
  have := idx_ixN a n
  have h := (idx_lt (a : Int) (n : Int)).1
  omega
attribute [irreducible] spotW
attribute [local irreducible] World.setRow World.alloc Blk
def ReC (S : Nat) (B : Option Addr) (L : List (Nat × Nat)) (d k a n : Nat) : Prop := ∀ (t : Nat) (w : World), t < 17592186044416 → Mem w S B L d →
    Calls Tryd.prog 15 #[.agg #[.int .u64 (S : Int), .slice B L.length d], .int .u64 (t : Int), .int .i64 (n : Int), .int .u64 (a : Int), .int .i64 (k : Int)] w fun r w' => r = .returned (.agg (sptC (spotW L k n t a))) ∧ Ext w w'
set_option maxHeartbeats 4000000 in
theorem rreach19_step {S : Nat} {B : Option Addr} {L : List (Nat × Nat)} {d k a : Nat} (ha : a < 18446744073709551616) (n : Nat) (hn : n ≤ 2) (hk : k ≤ 2) (ih : ∀ n', n = n' + 1 → ReC S B L d k a n') : ReC S B L d k a n := by
  intro t w ht hM
  have cix := fun W => rindex5_c (a : Int) (n : Int) (by omega) (by omega) (by omega) (by omega) W
  rw [idx_ix] at cix
  have hi := ixN_lt a n
  have cat := fun W (m : Mem W S B L d) => rat19_c m (t := t) (i := ixN a n) ht hi
  have clk := fun W => rlinks19_c (tE L t (ixN a n)) n hn W
  have hgo : goB L t (ixN a n) n = (linkB (tE L t (ixN a n)) && !badB (tE L t (ixN a n)) (n : Int)) := rfl
  rw [← hgo] at clk
  clear hgo
  have hMm : ∀ W : World, Ext w W → Mem W S B L d := fun W e => hM.ext e
  have h1 : Blk ((w.alloc (.cells #[.int .u64 (S : Int), .slice B L.length d] 25)).alloc (.cells #[.int .u64 0, .int .i64 0, .bool false, .bool false, .bool false, .bool false, .bool false, .bool false, .bool false, .bool false, .int .u64 0, .int .u64 0, .int .u64 0] 34)) w.heap.size 25 #[.int .u64 (S : Int), .slice B L.length d] := (Blk.new w _ _).alloc _
  have k2 : Blk ((w.alloc (.cells #[.int .u64 (S : Int), .slice B L.length d] 25)).alloc (.cells #[.int .u64 0, .int .i64 0, .bool false, .bool false, .bool false, .bool false, .bool false, .bool false, .bool false, .bool false, .int .u64 0, .int .u64 0, .int .u64 0] 34)) (w.heap.size + 1) 34 #[.int .u64 0, .int .i64 0, .bool false, .bool false, .bool false, .bool false, .bool false, .bool false, .bool false, .bool false, .int .u64 0, .int .u64 0, .int .u64 0] := blk_at (by simp)
  have HE := Lib.hid (((Ext.refl w).alloc (.cells #[.int .u64 (S : Int), .slice B L.length d] 25)).alloc (.cells #[.int .u64 0, .int .i64 0, .bool false, .bool false, .bool false, .bool false, .bool false, .bool false, .bool false, .bool false, .int .u64 0, .int .u64 0, .int .u64 0] 34))
  go_enter Tryd.func15, Tryd.ntmps15
  go_wp2_with fail
  have l1 := k2.lt
  generalize (w.alloc (.cells #[.int .u64 (S : Int), .slice B L.length d] 25)).alloc (.cells #[.int .u64 0, .int .i64 0, .bool false, .bool false, .bool false, .bool false, .bool false, .bool false, .bool false, .bool false, .int .u64 0, .int .u64 0, .int .u64 0] 34) = W1 at *
  obtain ⟨ix, hix⟩ : ∃ ix, ixN a n = ix := ⟨_, rfl⟩
  rw [hix] at cix cat clk hi
  have HI := Lib.hid hix
  obtain ⟨p, hp⟩ : ∃ p, tE L t ix = p := ⟨_, rfl⟩
  rw [hp] at cat clk
  have HQ := Lib.hid hp
  have HP : Hid (tE L t (ixN a n) = p) := Lib.hid (by rw [hix]; exact hp)
  clear hix hp
  refine wp_region_float 11 32 (#[.bool false, .bool false, .bool false, .bool false, .bool false, .bool false, .bool false, .bool false, .int .u64 0, .int .u64 0, .int .u64 0]) 6 [([(0, false), (1, false), (2, false), (3, false)], 4), ([], 5)] [] [(7, true)] (by kernel_rfl) (by kernel_rfl) (fun _ _ => by simp [go_sem, execOp, Act.eval, nth]) (fun _ => rfl) rfl ?_; intro Bd W hE hs0 hwB; have hwE := HE.out.size; (try replace h1 := h1.ext hE); (try replace h3 := h3.ext hE); (try replace k2 := k2.ext hE); (try replace hM := hM.ext hE); (try replace HE := Lib.hid (HE.out.trans hE)); (try replace r0 := r0.ext hE); (try replace r1 := r1.ext hE); (try replace r2 := r2.ext hE); (try replace r3 := r3.ext hE); (try replace r4 := r4.ext hE); (try replace r5 := r5.ext hE); (try replace r6 := r6.ext hE); clear hE; simp only [floatB, List.map, nth_z, nth_s]
  intro x W hE; (try simp only [Act.put, List.setIfInBounds_toArray, List.set_cons_zero, List.set_cons_succ]); (try replace h1 := h1.ext hE); (try replace h3 := h3.ext hE); (try replace k2 := k2.ext hE); (try replace hM := hM.ext hE); (try replace HE := Lib.hid (HE.out.trans hE)); (try replace r0 := r0.ext hE); (try replace r1 := r1.ext hE); (try replace r2 := r2.ext hE); (try replace r3 := r3.ext hE); (try replace r4 := r4.ext hE); (try replace r5 := r5.ext hE); (try replace r6 := r6.ext hE); replace hs0 := Nat.le_trans hs0 hE.size; clear hE
  refine seq_load rfl rfl (fun x hx => Blk.lower (h1) hx (by omega)) rfl Tryd.underlying25 (by kernel_rfl) (by rfl) ?_; intro K hK; simp only [Act.put, List.setIfInBounds_toArray, List.set_cons_zero, List.set_cons_succ]; refine hK _ ?_; clear hK K
  (repeat (first | (refine seq_skip (by rfl) ?_; intro K hK; simp only [Act.put, List.setIfInBounds_toArray, List.set_cons_zero, List.set_cons_succ]; refine hK _ ?_; clear hK K) | (refine seq_skipc (by rfl) ?_; intro K hK; simp only [Act.put, List.setIfInBounds_toArray, List.set_cons_zero, List.set_cons_succ]; refine hK _ ?_; clear hK K) | (refine seq_read (by rfl) (by rfl) ?_; intro K hK; go_big_quiet_op; first | go_big_quiet_on | (refine ⟨_, fun _ _ => rfl, ?_⟩; go_big_quiet_on))))
  refine seq_done ⟨rfl, rfl, ?_⟩; intro x W hE; (try simp only [Act.put, List.setIfInBounds_toArray, List.set_cons_zero, List.set_cons_succ]); (try replace h1 := h1.ext hE); (try replace h3 := h3.ext hE); (try replace k2 := k2.ext hE); (try replace hM := hM.ext hE); (try replace HE := Lib.hid (HE.out.trans hE)); (try replace r0 := r0.ext hE); (try replace r1 := r1.ext hE); (try replace r2 := r2.ext hE); (try replace r3 := r3.ext hE); (try replace r4 := r4.ext hE); (try replace r5 := r5.ext hE); (try replace r6 := r6.ext hE); replace hs0 := Nat.le_trans hs0 hE.size; clear hE
  refine seq_call (calls_ext (cix _)) rfl Tryd.func30 (by kernel_rfl) (by kernel_rfl) (by rfl) (by rfl) ?_; intro K hK; rintro e w' ⟨rfl, hE⟩; refine ⟨_, rfl, (Below.mono hE hs0), ?_⟩; simp only [Act.put, List.setIfInBounds_toArray, List.set_cons_zero, List.set_cons_succ]; refine hK _ _ ?_; clear hK K; (try replace h1 := h1.ext hE); (try replace h3 := h3.ext hE); (try replace k2 := k2.ext hE); (try replace hM := hM.ext hE); (try replace HE := Lib.hid (HE.out.trans hE)); (try replace r0 := r0.ext hE); (try replace r1 := r1.ext hE); (try replace r2 := r2.ext hE); (try replace r3 := r3.ext hE); (try replace r4 := r4.ext hE); (try replace r5 := r5.ext hE); (try replace r6 := r6.ext hE); replace hs0 := Nat.le_trans hs0 hE.size; refine seq_done ⟨kept_ext hE, rfl, ?_⟩; clear hE
  intro x W hE; (try simp only [Act.put, List.setIfInBounds_toArray, List.set_cons_zero, List.set_cons_succ]); (try replace h1 := h1.ext hE); (try replace h3 := h3.ext hE); (try replace k2 := k2.ext hE); (try replace hM := hM.ext hE); (try replace HE := Lib.hid (HE.out.trans hE)); (try replace r0 := r0.ext hE); (try replace r1 := r1.ext hE); (try replace r2 := r2.ext hE); (try replace r3 := r3.ext hE); (try replace r4 := r4.ext hE); (try replace r5 := r5.ext hE); (try replace r6 := r6.ext hE); replace hs0 := Nat.le_trans hs0 hE.size; clear hE
  refine seq_done ⟨rfl, rfl, ?_⟩; intro x W hE; (try simp only [Act.put, List.setIfInBounds_toArray, List.set_cons_zero, List.set_cons_succ]); (try replace h1 := h1.ext hE); (try replace h3 := h3.ext hE); (try replace k2 := k2.ext hE); (try replace hM := hM.ext hE); (try replace HE := Lib.hid (HE.out.trans hE)); (try replace r0 := r0.ext hE); (try replace r1 := r1.ext hE); (try replace r2 := r2.ext hE); (try replace r3 := r3.ext hE); (try replace r4 := r4.ext hE); (try replace r5 := r5.ext hE); (try replace r6 := r6.ext hE); replace hs0 := Nat.le_trans hs0 hE.size; clear hE
  refine seq_call (cat _ (hMm _ HE.out)) rfl Tryd.func29 (by kernel_rfl) (by kernel_rfl) (by rfl) (by rfl) ?_; intro K hK; rintro e w' ⟨rfl, hE⟩; refine ⟨_, rfl, (Below.mono hE hs0), ?_⟩; simp only [Act.put, List.setIfInBounds_toArray, List.set_cons_zero, List.set_cons_succ]; refine hK _ _ ?_; clear hK K; (try replace h1 := h1.ext hE); (try replace h3 := h3.ext hE); (try replace k2 := k2.ext hE); (try replace hM := hM.ext hE); (try replace HE := Lib.hid (HE.out.trans hE)); (try replace r0 := r0.ext hE); (try replace r1 := r1.ext hE); (try replace r2 := r2.ext hE); (try replace r3 := r3.ext hE); (try replace r4 := r4.ext hE); (try replace r5 := r5.ext hE); (try replace r6 := r6.ext hE); replace hs0 := Nat.le_trans hs0 hE.size; refine seq_done ⟨kept_ext hE, rfl, ?_⟩; clear hE
  intro x W hE; (try simp only [Act.put, List.setIfInBounds_toArray, List.set_cons_zero, List.set_cons_succ]); (try replace h1 := h1.ext hE); (try replace h3 := h3.ext hE); (try replace k2 := k2.ext hE); (try replace hM := hM.ext hE); (try replace HE := Lib.hid (HE.out.trans hE)); (try replace r0 := r0.ext hE); (try replace r1 := r1.ext hE); (try replace r2 := r2.ext hE); (try replace r3 := r3.ext hE); (try replace r4 := r4.ext hE); (try replace r5 := r5.ext hE); (try replace r6 := r6.ext hE); replace hs0 := Nat.le_trans hs0 hE.size; clear hE; refine seq_done ⟨rfl, rfl, ?_⟩; intro gq W hE hn hgB hEg; (try simp only [Act.put, List.setIfInBounds_toArray, List.set_cons_zero, List.set_cons_succ]); (try replace h1 := h1.ext hE); (try replace h3 := h3.ext hE); (try replace k2 := k2.ext hE); (try replace hM := hM.ext hE); (try replace HE := Lib.hid (HE.out.trans hE)); (try replace r0 := r0.ext hE); (try replace r1 := r1.ext hE); (try replace r2 := r2.ext hE); (try replace r3 := r3.ext hE); (try replace r4 := r4.ext hE); (try replace r5 := r5.ext hE); (try replace r6 := r6.ext hE); replace hs0 := Nat.le_trans hs0 hE.size; clear hE
  refine seq_store_row rfl rfl rfl (hn) (pt_info _) (by simp [ptC_size]) (ptC_one _) (by rfl) ((below_row (Below.refl _ _) hgB _)) ?_; intro K hK; simp only [Act.put, List.setIfInBounds_toArray, List.set_cons_zero, List.set_cons_succ]; refine hK _ _ ?_; clear hK K; (repeat (first | (refine seq_skip (by rfl) ?_; intro K hK; simp only [Act.put, List.setIfInBounds_toArray, List.set_cons_zero, List.set_cons_succ]; refine hK _ ?_; clear hK K) | (refine seq_skipc (by rfl) ?_; intro K hK; simp only [Act.put, List.setIfInBounds_toArray, List.set_cons_zero, List.set_cons_succ]; refine hK _ ?_; clear hK K) | (refine seq_read (by rfl) (by rfl) ?_; intro K hK; go_big_quiet_op; first | go_big_quiet_on | (refine ⟨_, fun _ _ => rfl, ?_⟩; go_big_quiet_on)))); refine seq_done ?_; (try replace h1 := h1.apart (k := gq) (by omega) (ptC p)); (try replace h3 := h3.apart (k := gq) (by omega) (ptC p)); (try replace k2 := k2.apart (k := gq) (by omega) (ptC p)); have h3 := hn.row (ptC p); replace HE := Lib.hid (Ext.row HE.out (show _ ≤ gq by omega) (ptC p)); generalize W.setRow gq (ptC p) = WF at *; clear hn hEg
  have hx := (h3.cell 9).trans (ptC_pp p)
  clear cix cat
  by_cases hkn : k < n
  case neg =>
    have dk : decide ((k : Int) < (n : Int)) = false := by simp; omega
    have dk2 : decide (k < n) = false := by simp; omega
    have hq := Lib.hid (spotW_no (L := L) (k := k) (n := n) (t := t) (a := a) fun h => hkn h.1)
    clear hkn clk ih
    go_wp2_with (first | (refine wpList_load_blk (by rfl) 32 _ rfl rfl h3 Tryd.underlying32 rfl (by kernel_rfl) ?_) | (refine wpList_build_as (by rfl) rfl ((spt_build ⟨t, (n : Int), p⟩)) ?_) | (refine wpList_store_blk rfl 34 _ _ rfl rfl rfl k2 (spt_info _) (by simp [sptC_size]) (sptC_one _) ?_))
    (try simp only [Exit.inBlock, Exit.then]); (try rw [Exit.noGoto_ret]); refine bodyPost_ret (results_cell_row rfl _ _ _ _ _ _ _ rfl ((k2.row _).mem19) Tryd.underlying34 rfl (spt_info _)) rfl ?_
    exact ⟨by rw [hq.out, HP.out], HE.out.row (by omega) _⟩
  have dk : decide ((k : Int) < (n : Int)) = true := by simp; omega
  have dk2 : decide (k < n) = true := by simp; omega
  cases hg : goB L t ix n
  · have hq := Lib.hid (spotW_no (L := L) (k := k) (n := n) (t := t) (a := a) fun h => by rw [HI.out, hg] at h; cases h.2)
    rw [hg] at clk
    clear hkn ih hg
    go_wp2_with (refine wpList_load_blk (by rfl) 32 _ rfl rfl h3 Tryd.underlying32 rfl (by kernel_rfl) ?_)
    refine (clk _).mono ?_
    rintro e w' ⟨rfl, hE⟩
    (try replace h1 := h1.ext hE); (try replace h3 := h3.ext hE); (try replace k2 := k2.ext hE); (try replace hM := hM.ext hE); (try replace HE := Lib.hid (HE.out.trans hE)); (try replace r0 := r0.ext hE); (try replace r1 := r1.ext hE); (try replace r2 := r2.ext hE); (try replace r3 := r3.ext hE); (try replace r4 := r4.ext hE); (try replace r5 := r5.ext hE); (try replace r6 := r6.ext hE)
    clear hE clk
    go_wp2_with (first | (refine wpList_load_blk (by rfl) 32 _ rfl rfl h3 Tryd.underlying32 rfl (by kernel_rfl) ?_) | (refine wpList_build_as (by rfl) rfl ((spt_build ⟨t, (n : Int), p⟩)) ?_) | (refine wpList_store_blk rfl 34 _ _ rfl rfl rfl k2 (spt_info _) (by simp [sptC_size]) (sptC_one _) ?_))
    (try simp only [Exit.inBlock, Exit.then]); (try rw [Exit.noGoto_ret]); refine bodyPost_ret (results_cell_row rfl _ _ _ _ _ _ _ rfl ((k2.row _).mem19) Tryd.underlying34 rfl (spt_info _)) rfl ?_
    exact ⟨by rw [hq.out, HP.out], HE.out.row (by omega) _⟩
  · rw [hg] at clk
    obtain ⟨n', hn'⟩ : ∃ n', n = n' + 1 := ⟨n - 1, by omega⟩
    have hq : Hid (spotW L k n t a = spotW L k n' p.pp a) := Lib.hid (by
      rw [← HP.out]
      subst hn'
      exact spotW_go (by omega) (by rw [HI.out]; exact hg))
    have cre := fun W (m : Mem W S B L d) => ih n' hn' p.pp W (by rw [← HQ.out]; exact tE_pp L t _) m
    have hs : (n : Int) - 1 = (n' : Int) := by omega
    clear hkn ih hg hn'
    go_wp2_with (refine wpList_load_blk (by rfl) 32 _ rfl rfl h3 Tryd.underlying32 rfl (by kernel_rfl) ?_)
    refine (clk _).mono ?_
    rintro e w' ⟨rfl, hE⟩
    (try replace h1 := h1.ext hE); (try replace h3 := h3.ext hE); (try replace k2 := k2.ext hE); (try replace hM := hM.ext hE); (try replace HE := Lib.hid (HE.out.trans hE)); (try replace r0 := r0.ext hE); (try replace r1 := r1.ext hE); (try replace r2 := r2.ext hE); (try replace r3 := r3.ext hE); (try replace r4 := r4.ext hE); (try replace r5 := r5.ext hE); (try replace r6 := r6.ext hE)
    replace hx := ext_cell hE hx
    clear hE clk
    go_wp2_with (refine wpList_load_blk (by rfl) 25 _ rfl rfl h1 Tryd.underlying25 rfl (by kernel_rfl) ?_)
    refine (cre _ (hMm _ HE.out)).mono ?_
    rintro e w2 ⟨rfl, hE⟩
    (try replace h1 := h1.ext hE); (try replace h3 := h3.ext hE); (try replace k2 := k2.ext hE); (try replace hM := hM.ext hE); (try replace HE := Lib.hid (HE.out.trans hE)); (try replace r0 := r0.ext hE); (try replace r1 := r1.ext hE); (try replace r2 := r2.ext hE); (try replace r3 := r3.ext hE); (try replace r4 := r4.ext hE); (try replace r5 := r5.ext hE); (try replace r6 := r6.ext hE)
    clear hE cre hx hs
    go_wp2_with (refine wpList_store_blk rfl 34 _ _ rfl rfl rfl k2 (spt_info _) (by simp [sptC_size]) (sptC_one _) ?_)
    (try simp only [Exit.inBlock, Exit.then]); (try rw [Exit.noGoto_ret]); refine bodyPost_ret (results_cell_row rfl _ _ _ _ _ _ _ rfl ((k2.row _).mem19) Tryd.underlying34 rfl (spt_info _)) rfl ?_
    exact ⟨by rw [hq.out], HE.out.row (by omega) _⟩
theorem rreach19_c {S : Nat} {B : Option Addr} {L : List (Nat × Nat)} {d k a : Nat} (ha : a < 18446744073709551616) (hk : k ≤ 2) : ∀ n : Nat, n ≤ 2 → ReC S B L d k a n
  | 0, h => rreach19_step ha 0 h hk fun n' e => by cases e
  | n + 1, h => rreach19_step ha (n + 1) h hk fun n' e => by
    cases e
    exact rreach19_c ha hk n (by omega)
theorem pg_fold (e : Pg) : Array.foldl (fun (cs : Array Value) (x : Value × Nat) => cs.setIfInBounds x.snd x.fst) #[.int .u64 0, .int .u64 0, .int .i64 0, .bool false, .bool false, .bool false, .bool false, .bool false] (pgC e).zipIdx 0 8 = pgC e := by
  simp only [pgC_eq, pmC_eq]
  kernel_rfl
theorem ptC_d (p : Pt) : (ptC p)[7]? = some (.bool p.d) := by rw [ptC_eq]; rfl
def PgC (S : Nat) (B : Option Addr) (L : List (Nat × Nat)) (d n : Nat) : Prop := ∀ (t b : Nat) (w : World), TreeOk S L n t → szN (n + 1) ∣ b → b + szN (n + 1) ≤ szN 3 → Mem w S B L d →
    Calls Tryd.prog 22 #[.agg #[.int .u64 (S : Int), .slice B L.length d], .int .u64 (t : Int), .int .i64 (n : Int), .int .u64 (b : Int)] w (MadeK KG (pgK L n t b) w)
set_option maxHeartbeats 8000000 in
theorem rpages19_step {S : Nat} {B : Option Addr} {L : List (Nat × Nat)} {d : Nat} (hS : S ≤ 1099511627776) (n : Nat) (hn : n ≤ 2) (ih : ∀ n', n = n' + 1 → PgC S B L d n') : PgC S B L d n := by
  intro t b w hT hbd hbl hM
  have ht : t < 17592186044416 := by have := hT.top; omega
  have h1 := Blk.new w 25 #[.int .u64 (S : Int), .slice B L.length d]
  have HE := Lib.hid ((Ext.refl w).alloc (.cells #[.int .u64 (S : Int), .slice B L.length d] 25))
  have hMm : ∀ W : World, Ext w W → Mem W S B L d := fun W e => hM.ext e
  have csz := fun W => rsize5_c (n : Int) (by omega) (by omega) W
  rw [siz_szN] at csz
  have hsz : szN n ≤ 1073741824 := by
    have := sz_vals
    rcases (by omega : n = 0 ∨ n = 1 ∨ n = 2) with rfl | rfl | rfl <;> omega
  unfold MadeK
  go_enter Tryd.func22, Tryd.ntmps22
  go_wp2_with fail
  go_loopw [9, 10] (fun v i wr => ∃ k : Nat, k ≤ 512 ∧ i = .int .i64 k ∧ wr.ownsRow (w.heap.size + 1) KG.e KG.sz v (pgP L n t b k).length (KG.flat (pgP L n t b k)) ∧ w.heap.size + 1 ≤ wr.heap.size ∧ Blk wr w.heap.size 25 #[.int .u64 (S : Int), .slice B L.length d] ∧ Ext w wr) (fun _ i _ => (512 - intOf i).toNat)
  case atStart => exact ⟨0, by omega, rfl, by rw [pgP_0]; exact World.ownsRow_nil _ _ _ _, by simp, h1, HE.out⟩
  case round =>
    clear h1 HE
    obtain ⟨k, hk, rfl, hown, hszw, h1, hE⟩ := hrel
    have HE := Lib.hid hE
    clear hE
    by_cases hlt : k < 512
    case neg =>
      obtain rfl : k = 512 := by omega
      rw [pgP_end] at hown
      clear hlt hk
      go_wp2
      go_ret
      exact ⟨_, rfl, own_base hown (by omega), HE.out⟩
    have dk : decide ((k : Int) < 512) = true := by simp; omega
    have cat := fun W (m : Mem W S B L d) => rat19_c m (t := t) (i := k) ht hlt
    have hbi := base_in hbd hbl hlt
    have hfew := pgP_few hT b hk
    have hnx := pgP_next L n t b k
    have cbd := fun W => rbad_c (tE L t k) (n : Int) (by omega) (by omega) W
    have clf := fun W => rleaf_c (tE L t k) W
    have s3 := sz_vals.2.2.2
    have hbt := hbi.lt
    have hkq : k * szN n ≤ 511 * 1073741824 := Nat.mul_le_mul (by omega) hsz
    have hs1 : IntKind.u64.wrap ((k : Int) * ((szN n : Nat) : Int)) = ((k * szN n : Nat) : Int) := by rw [IntKind.wrap_u64, ← Int.natCast_mul]; omega
    have hs2 : IntKind.u64.wrap ((b : Int) + ((k * szN n : Nat) : Int)) = ((b + k * szN n : Nat) : Int) := by rw [IntKind.wrap_u64, ← Int.natCast_add]; omega
    have hpp := tE_pp L t k
    have hva := va_of (v := b + k * szN n) (by have := szN_pos n; omega) hbi.d4
    have hpgb : ∀ q, pgOne L n t b k = q → pgP L n t b (k + 1) = pgP L n t b k ++ q := fun q e => by rw [hnx, e]
    have hpos : badB (tE L t k) (n : Int) = false → leafB (tE L t k) = false → ∃ m, n = m + 1 := fun q1 q2 => by
      rcases Nat.eq_zero_or_pos n with rfl | h
      · have := go_of q1 q2
        rw [go_zero] at this; cases this
      · exact ⟨n - 1, by omega⟩
    have gb := @pgOne_bad L n t b k
    have gl := @pgOne_leaf L n t b k
    have gg := @pgOne_go L n t b k
    have hT2 : ∀ m, n = m + 1 → badB (tE L t k) (n : Int) = false → leafB (tE L t k) = false → TreeOk S L m (tE L t k).pp := fun m e q1 q2 => by
      subst e
      exact (hT.child hlt (go_of q1 q2)).1
    have hd0 : ∀ m, n = m + 1 → szN (m + 1) ∣ b + k * szN n := fun m e => by subst e; exact hbi.dv
    have hl0 : ∀ m, n = m + 1 → b + k * szN n + szN (m + 1) ≤ szN 3 := fun m e => by subst e; exact hbi.lt
    obtain ⟨p, hp⟩ : ∃ p, tE L t k = p := ⟨_, rfl⟩
    rw [hp] at cat cbd clf hpp gb gl gg hT2 hpos
    clear hp hnx hbi
    generalize szN n = sz at *
    obtain ⟨a, ha⟩ : ∃ a, b + k * sz = a := ⟨_, rfl⟩
    have Ha := Lib.hid ha
    rw [ha] at hs2 hbt hva gl gg hd0 hl0
    generalize k * sz = q at *
    clear ha hkq hsz
    go_wp2_with (refine wpList_load_blk (by rfl) 25 _ rfl rfl h1 Tryd.underlying25 rfl (by kernel_rfl) ?_)
    refine (cat _ (hMm _ HE.out)).mono ?_
    rintro e w1 ⟨rfl, hE⟩
    replace hown := own_ext hown hE
    replace hszw := Nat.le_trans hszw hE.size
    (try replace hb := hb.ext hE); (try replace h1 := h1.ext hE); (try replace h4 := h4.ext hE); (try replace hM := hM.ext hE); (try replace HE := Lib.hid (HE.out.trans hE)); (try replace r0 := r0.ext hE); (try replace r1 := r1.ext hE); (try replace r2 := r2.ext hE); (try replace r3 := r3.ext hE); (try replace r4 := r4.ext hE); (try replace r5 := r5.ext hE); (try replace r6 := r6.ext hE)
    clear hE cat
    have hszw1 := hszw
    have hown1 := hown
    have zz1 : Blk (w1.alloc (.cells #[.bool false, .bool false, .bool false, .bool false, .bool false, .bool false, .bool false, .bool false, .int .u64 0, .int .u64 0, .int .u64 0] 32)) w1.heap.size 32 #[.bool false, .bool false, .bool false, .bool false, .bool false, .bool false, .bool false, .bool false, .int .u64 0, .int .u64 0, .int .u64 0] := Blk.new _ _ _; have hE := ((Ext.refl w1).alloc (.cells #[.bool false, .bool false, .bool false, .bool false, .bool false, .bool false, .bool false, .bool false, .int .u64 0, .int .u64 0, .int .u64 0] 32)).row (Nat.le_refl w1.heap.size) (ptC p); have hE0 := hE; (try replace hb := hb.ext hE); (try replace h1 := h1.ext hE); (try replace h4 := h4.ext hE); (try replace hM := hM.ext hE); (try replace HE := Lib.hid (HE.out.trans hE)); (try replace r0 := r0.ext hE); (try replace r1 := r1.ext hE); (try replace r2 := r2.ext hE); (try replace r3 := r3.ext hE); (try replace r4 := r4.ext hE); (try replace r5 := r5.ext hE); (try replace r6 := r6.ext hE); clear hE; have h4 := zz1.row (ptC p)
    replace hown1 := own_ext hown1 hE0
    replace hszw1 := Nat.le_trans hszw1 hE0.size
    clear hE0 hown hszw
    go_wp2_with (first | ((refine wpList_store_blk rfl 32 _ _ rfl rfl rfl zz1 (pt_info _) (by simp [ptC_size]) (ptC_one _) ?_); clear zz1; generalize (w1.alloc (.cells #[.bool false, .bool false, .bool false, .bool false, .bool false, .bool false, .bool false, .bool false, .int .u64 0, .int .u64 0, .int .u64 0] 32)).setRow w1.heap.size (ptC p) = X at *) | (go_at_call 44; (with_reducible refine (csz _).mono ?_); rintro e wq ⟨rfl, rfl⟩) | (refine wpList_load_blk (by rfl) 32 _ rfl rfl h4 Tryd.underlying32 rfl (by kernel_rfl) ?_))
    refine (cbd _).mono ?_
    rintro e w2 ⟨rfl, hE⟩
    replace hown1 := own_ext hown1 hE
    replace hszw1 := Nat.le_trans hszw1 hE.size
    (try replace hb := hb.ext hE); (try replace h1 := h1.ext hE); (try replace h4 := h4.ext hE); (try replace hM := hM.ext hE); (try replace HE := Lib.hid (HE.out.trans hE)); (try replace r0 := r0.ext hE); (try replace r1 := r1.ext hE); (try replace r2 := r2.ext hE); (try replace r3 := r3.ext hE); (try replace r4 := r4.ext hE); (try replace r5 := r5.ext hE); (try replace r6 := r6.ext hE)
    clear hE cbd csz hs1 hs2
    cases hb : badB p (n : Int)
    case true =>
      have e := hpgb _ (gb hb)
      rw [List.append_nil] at e
      rw [← e] at hown1
      clear hpgb gb gl gg hT2 hpos hfew h4 clf hb
      go_wp2
      go_roundw
      case rel => exact ⟨k + 1, by omega, by go_num, hown1, hszw1, h1, HE.out⟩
      case measure => simp [intOf]; omega
    go_wp2_with (refine wpList_load_blk (by rfl) 32 _ rfl rfl h4 Tryd.underlying32 rfl (by kernel_rfl) ?_)
    refine (clf _).mono ?_
    rintro e w3 ⟨rfl, hE⟩
    replace hown1 := own_ext hown1 hE
    replace hszw1 := Nat.le_trans hszw1 hE.size
    (try replace hb := hb.ext hE); (try replace h1 := h1.ext hE); (try replace h4 := h4.ext hE); (try replace hM := hM.ext hE); (try replace HE := Lib.hid (HE.out.trans hE)); (try replace r0 := r0.ext hE); (try replace r1 := r1.ext hE); (try replace r2 := r2.ext hE); (try replace r3 := r3.ext hE); (try replace r4 := r4.ext hE); (try replace r5 := r5.ext hE); (try replace r6 := r6.ext hE)
    clear hE clf
    cases hl : leafB p
    · obtain ⟨n', hn'⟩ := hpos hb hl
      have e := hpgb _ (gg hb hl)
      have hT3 := hT2 n' hn' hb hl
      have crp := fun W (m : Mem W S B L d) => ih n' hn' p.pp a W hT3 (hd0 n' hn') (hl0 n' hn') m
      have hs : (n : Int) - 1 = (n' : Int) := by omega
      have hf4 := pgK_few hT3 a
      rw [show n - 1 = n' by omega] at e
      have x9 := (h4.cell 9).trans (ptC_pp p)
      unfold MadeK at crp
      generalize pgK L n' p.pp a = K4 at *
      generalize pgP L n t b k = M0 at *
      clear hpgb gb gl gg hT2 hpos hb hl hn' hT3 hd0 hl0 hva hbt ih
      go_wp2_with (refine wpList_load_blk (by rfl) 25 _ rfl rfl h1 Tryd.underlying25 rfl (by kernel_rfl) ?_)
      refine (crp _ (hMm _ HE.out)).mono ?_
      rintro e4 w4 ⟨v4, rfl, hown4, hE⟩
      obtain ⟨A4, c4, rfl, r4, -⟩ := own_rowv kg_ok hown4
      replace hown1 := own_ext hown1 hE
      replace hszw1 := Nat.le_trans hszw1 hE.size
      (try replace hb := hb.ext hE); (try replace h1 := h1.ext hE); (try replace h4 := h4.ext hE); (try replace hM := hM.ext hE); (try replace HE := Lib.hid (HE.out.trans hE)); (try replace r0 := r0.ext hE); (try replace r1 := r1.ext hE); (try replace r2 := r2.ext hE); (try replace r3 := r3.ext hE); (try replace r4 := r4.ext hE); (try replace r5 := r5.ext hE); (try replace r6 := r6.ext hE)
      clear hE crp hs x9 h4 hown4
      have hap := append_rows kg_ok w4 (w.heap.size + 1) u9 M0 hown1 A4 K4 c4 r4 (by show (M0.length + K4.length) * 32 ≤ _; omega) (by unfold maxLen; omega) hszw1
      rw [← e] at hap
      clear e hf4 hfew hown1 r4
      go_wp2_with (at_builtin; refine wpList_append_run' _ rfl _ _ _ rfl _ _ rfl rfl _ (hap _) ?_; rintro v5 w5 ⟨hown5, -, hB5⟩; have h1b := Blk.lower h1 hB5 (by omega); have hsz5 := Nat.le_trans hszw1 hB5.size; have HE5 : Hid (Ext w w5) := Lib.hid (Below.trans HE.out (Below.mono hB5 (Nat.le_succ _))))
      go_roundw
      case rel => exact ⟨k + 1, by omega, by go_num, hown5, hsz5, h1b, HE5.out⟩
      case measure => simp [intOf]; omega
    · have e := hpgb _ (gl hb hl)
      have x9 := (h4.cell 9).trans (ptC_pp p)
      have x7 := (h4.cell 7).trans (ptC_d p)
      have cnu := fun W => rnumber5_c (a : Int) (by omega) (by omega) W
      have cof := fun W => rof5_c (numI (a : Int)) (num_lt _).1 (by have := (num_lt (a : Int)).2; omega) W
      rw [hva] at cof
      have cpm := fun W => rperm_c p W
      have hw9 : 4096 * (p.pp : Int) = ((4096 * p.pp : Nat) : Int) := by omega
      have hvn := own_type (t := 32) hown1 h4 (by decide)
      have hX : pgO (a, n, p) = ⟨vaN a, 4096 * p.pp, (n : Int), permP p, p.d⟩ := by unfold pgO; rfl
      rw [hX] at e
      clear hX
      generalize vaN a = va at *
      generalize 4096 * p.pp = pa at *
      generalize permP p = pm at *
      have hbd9 : Tryd.prog.built 77 [(0, .int .u64 (va : Int)), (1, .int .u64 (4096 * (p.pp : Int))), (2, .int .i64 (n : Int)), (3, .agg (pmC pm)), (4, .bool p.d)] = some (pgC ⟨va, pa, (n : Int), pm, p.d⟩) := by rw [hw9]; exact pg_build ⟨va, pa, (n : Int), pm, p.d⟩
      have hfo := pg_fold ⟨va, pa, (n : Int), pm, p.d⟩
      generalize (⟨va, pa, (n : Int), pm, p.d⟩ : Pg) = X at *
      generalize pgP L n t b k = M0 at *
      clear hpgb gb gl gg hT2 hpos hb hl hd0 hl0 hva ih hw9
      generalize numI (a : Int) = na at *
      go_wp2_with fail
      replace h1 := h1.drew
      replace h4 := h4.drew
      replace hown1 := own_ext hown1 (Ext.refl w3).drew
      replace hszw1 : w.heap.size + 1 ≤ w3.drew.heap.size := hszw1
      replace HE := Lib.hid HE.out.drew
      refine wp_region_seq [(0, false), (1, false), (4, false), (5, false), (6, false), (7, false), (8, false), (10, false), (11, false), (2, true), (3, true), (9, true), (12, false), (13, true), (14, true), (15, false)] (fun x y => x.grownBy y u9.ownBlock) (by kernel_rfl) (by kernel_rfl) (fun x => World.grownBy.refl x _) (fun _ _ _ => World.grownBy.trans) ?_
      simp only [List.map, nth_z, nth_s]
      generalize w3.drew = wd at *
      (repeat (first | (refine seq_skip (by rfl) ?_; intro K hK; simp only [Act.put, List.setIfInBounds_toArray, List.set_cons_zero, List.set_cons_succ]; refine hK _ ?_; clear hK K) | (refine seq_skipc (by rfl) ?_; intro K hK; simp only [Act.put, List.setIfInBounds_toArray, List.set_cons_zero, List.set_cons_succ]; refine hK _ ?_; clear hK K) | (refine seq_read (by rfl) (by rfl) ?_; intro K hK; go_big_quiet_op; first | go_big_quiet_on | (refine ⟨_, fun _ _ => rfl, ?_⟩; go_big_quiet_on))))
      refine seq_value ((.int .u64 (p.pp : Int))) (by rfl) (fun x hx => by have hq := ((grw_blk hx h4 hvn).cell 9).trans (ptC_pp p); simp [go_sem, execOp, Act.eval, hq]) ?_; intro K hK; simp only [Act.put, List.setIfInBounds_toArray, List.set_cons_zero, List.set_cons_succ]; refine hK _ ?_; clear hK K
      (repeat (first | (refine seq_skip (by rfl) ?_; intro K hK; simp only [Act.put, List.setIfInBounds_toArray, List.set_cons_zero, List.set_cons_succ]; refine hK _ ?_; clear hK K) | (refine seq_skipc (by rfl) ?_; intro K hK; simp only [Act.put, List.setIfInBounds_toArray, List.set_cons_zero, List.set_cons_succ]; refine hK _ ?_; clear hK K) | (refine seq_read (by rfl) (by rfl) ?_; intro K hK; go_big_quiet_op; first | go_big_quiet_on | (refine ⟨_, fun _ _ => rfl, ?_⟩; go_big_quiet_on))))
      refine seq_load rfl rfl (fun x hx => grw_blk hx h4 hvn) rfl Tryd.underlying32 (pt_info _) (by rfl) ?_; intro K hK; simp only [Act.put, List.setIfInBounds_toArray, List.set_cons_zero, List.set_cons_succ]; refine hK _ ?_; clear hK K
      (repeat (first | (refine seq_skip (by rfl) ?_; intro K hK; simp only [Act.put, List.setIfInBounds_toArray, List.set_cons_zero, List.set_cons_succ]; refine hK _ ?_; clear hK K) | (refine seq_skipc (by rfl) ?_; intro K hK; simp only [Act.put, List.setIfInBounds_toArray, List.set_cons_zero, List.set_cons_succ]; refine hK _ ?_; clear hK K) | (refine seq_read (by rfl) (by rfl) ?_; intro K hK; go_big_quiet_op; first | go_big_quiet_on | (refine ⟨_, fun _ _ => rfl, ?_⟩; go_big_quiet_on))))
      refine seq_value ((.bool p.d)) (by rfl) (fun x hx => by have hq := ((grw_blk hx h4 hvn).cell 7).trans (ptC_d p); simp [go_sem, execOp, Act.eval, hq]) ?_; intro K hK; simp only [Act.put, List.setIfInBounds_toArray, List.set_cons_zero, List.set_cons_succ]; refine hK _ ?_; clear hK K
      refine seq_call (calls_ext (cnu _)) rfl Tryd.func47 (by kernel_rfl) (by kernel_rfl) (by rfl) (by rfl) ?_; intro K hK; rintro e w' ⟨rfl, hE⟩; refine ⟨_, rfl, (grw_ext hE _), ?_⟩; simp only [Act.put, List.setIfInBounds_toArray, List.set_cons_zero, List.set_cons_succ]; refine hK _ _ ?_; clear hK K
      replace hown1 := own_ext hown1 hE
      replace hszw1 := Nat.le_trans hszw1 hE.size
      (try replace hb := hb.ext hE); (try replace h1 := h1.ext hE); (try replace h4 := h4.ext hE); (try replace hM := hM.ext hE); (try replace HE := Lib.hid (HE.out.trans hE)); (try replace r0 := r0.ext hE); (try replace r1 := r1.ext hE); (try replace r2 := r2.ext hE); (try replace r3 := r3.ext hE); (try replace r4 := r4.ext hE); (try replace r5 := r5.ext hE); (try replace r6 := r6.ext hE)
      clear hE
      refine seq_call (cof _) rfl Tryd.func46 (by kernel_rfl) (by kernel_rfl) (by rfl) (by rfl) ?_; intro K hK; rintro e w' ⟨rfl, hE⟩; refine ⟨_, rfl, (grw_ext hE _), ?_⟩; simp only [Act.put, List.setIfInBounds_toArray, List.set_cons_zero, List.set_cons_succ]; refine hK _ _ ?_; clear hK K
      replace hown1 := own_ext hown1 hE
      replace hszw1 := Nat.le_trans hszw1 hE.size
      (try replace hb := hb.ext hE); (try replace h1 := h1.ext hE); (try replace h4 := h4.ext hE); (try replace hM := hM.ext hE); (try replace HE := Lib.hid (HE.out.trans hE)); (try replace r0 := r0.ext hE); (try replace r1 := r1.ext hE); (try replace r2 := r2.ext hE); (try replace r3 := r3.ext hE); (try replace r4 := r4.ext hE); (try replace r5 := r5.ext hE); (try replace r6 := r6.ext hE)
      clear hE
      refine seq_call (cpm _) rfl Tryd.func48 (by kernel_rfl) (by kernel_rfl) (by rfl) (by rfl) ?_; intro K hK; rintro e w' ⟨rfl, hE⟩; refine ⟨_, rfl, (grw_ext hE _), ?_⟩; simp only [Act.put, List.setIfInBounds_toArray, List.set_cons_zero, List.set_cons_succ]; refine hK _ _ ?_; clear hK K
      replace hown1 := own_ext hown1 hE
      replace hszw1 := Nat.le_trans hszw1 hE.size
      (try replace hb := hb.ext hE); (try replace h1 := h1.ext hE); (try replace h4 := h4.ext hE); (try replace hM := hM.ext hE); (try replace HE := Lib.hid (HE.out.trans hE)); (try replace r0 := r0.ext hE); (try replace r1 := r1.ext hE); (try replace r2 := r2.ext hE); (try replace r3 := r3.ext hE); (try replace r4 := r4.ext hE); (try replace r5 := r5.ext hE); (try replace r6 := r6.ext hE)
      clear hE
      refine seq_build_as rfl (hbd9) (by rfl) ?_; intro K hK; simp only [Act.put, List.setIfInBounds_toArray, List.set_cons_zero, List.set_cons_succ]; refine hK _ ?_; clear hK K
      have hap := append_one kg_ok w' (w.heap.size + 1) u9 M0 hown1 X (by show (M0.length + 1) * 32 ≤ _; omega) (by unfold maxLen; omega) hszw1
      rw [← e] at hap
      have hEa : Ext w' (w'.alloc (.cells (pgC X) 77)) := (Ext.refl w').alloc _
      refine seq_run (.slice (some ⟨w'.heap.size, 0, none⟩) 1 1) (w'.alloc (.cells (pgC X) 77)) (by rfl) ?_ (grw_ext hEa _) ?_; (simp [go_sem, execOp, Act.eval, hfo, pgC_size]); intro K hK; simp only [Act.put, List.setIfInBounds_toArray, List.set_cons_zero, List.set_cons_succ]; refine hK _ _ ?_; clear hK K
      obtain ⟨v5, w5, hrun, hown5, hg5, hB5⟩ := hap 52
      have hrun2 : (Builtin.append_ #[52, 52] 52 #[u9, .slice (some ⟨w'.heap.size, 0, none⟩) 1 1]).run Tryd.prog (w'.alloc (.cells (pgC X) 77)) = .ok v5 w5 := hrun
      refine seq_append _ (w5) _ _ rfl rfl rfl rfl (by rfl) hrun2 hg5 ?_; intro K hK; simp only [Act.put, List.setIfInBounds_toArray, List.set_cons_zero, List.set_cons_succ]; refine hK _ _ ?_; clear hK K
      (repeat (first | (refine seq_skip (by rfl) ?_; intro K hK; simp only [Act.put, List.setIfInBounds_toArray, List.set_cons_zero, List.set_cons_succ]; refine hK _ ?_; clear hK K) | (refine seq_skipc (by rfl) ?_; intro K hK; simp only [Act.put, List.setIfInBounds_toArray, List.set_cons_zero, List.set_cons_succ]; refine hK _ ?_; clear hK K) | (refine seq_read (by rfl) (by rfl) ?_; intro K hK; go_big_quiet_op; first | go_big_quiet_on | (refine ⟨_, fun _ _ => rfl, ?_⟩; go_big_quiet_on))))
      refine seq_done ?_
      replace h1 := (h1.ext hEa).lower hB5 (by omega)
      replace HE : Hid (Ext w w5) := Lib.hid (Below.trans (HE.out.trans hEa) (Below.mono hB5 (Nat.le_succ _)))
      replace hszw1 := Nat.le_trans (Nat.le_trans hszw1 hEa.size) hB5.size
      clear hrun hrun2 hap hg5 hB5 hEa hown1 hbd9 hfo hvn h4 x9 x7 e cnu cof cpm
      go_wp2_with fail
      go_roundw
      case rel => exact ⟨k + 1, by omega, by go_num, hown5, hszw1, h1, HE.out⟩
      case measure => simp [intOf]; omega
theorem rpages19_c {S : Nat} {B : Option Addr} {L : List (Nat × Nat)} {d : Nat} (hS : S ≤ 1099511627776) : ∀ n : Nat, n ≤ 2 → PgC S B L d n
  | 0, h => rpages19_step hS 0 h fun n' e => by cases e
  | n + 1, h => rpages19_step hS (n + 1) h fun n' e => by
    cases e
    exact rpages19_c hS n (by omega)
end Go.Proofs.YticbjiddbjgikaaDoor
/- The document's answers for layer 19 (atlasref19): Same, Fresh, Back. -/
namespace Go.Proofs.YticbjiddbjgikaaDoor
open Go.ChangeShapes Go.WideShapes Go.ChangeAt Go.RowKit
set_option linter.unusedVariables false
set_option linter.unusedSimpArgs false
set_option maxRecDepth 10000

theorem results_cctt {fn : Func} {p q u x : Tmp} {tp tq : TypeId} {P : Program} (h : fn.results = #[.cell p tp, .cell q tq, .tmp u, .tmp x]) (tmps : Array Value) (w : World) {g k : Nat} {t v : TypeId} {cs ds : Array Value} {d e : TypeDesc}
    (hp : tmps.getD p undef = .pointer (some ⟨g, 0, none⟩)) (hq : tmps.getD q undef = .pointer (some ⟨k, 0, none⟩)) (hg : Blk w g t cs) (hk : Blk w k v ds)
    (hu : P.underlying tp = some d) (hd : d.isRow = true) (hi : (P.info? tp).map (·.size) = some cs.size) (hu2 : P.underlying tq = some e) (hd2 : e.isRow = true) (hi2 : (P.info? tq).map (·.size) = some ds.size) :
    (results fn tmps).run P w = .ok (.tuple #[.agg cs, .agg ds, tmps.getD u undef, tmps.getD x undef]) w := by
  have hp' : tmps[p]?.getD undef = .pointer (some ⟨g, 0, none⟩) := by simpa using hp
  have hq' : tmps[q]?.getD undef = .pointer (some ⟨k, 0, none⟩) := by simpa using hq
  simp only [results, h]
  simp [Sem.run_bind, Result.andThen, hp', hq', asAddr, run_result hg hu hd hi, run_result hk hu2 hd2 hi2]
theorem nmp (w : World) (H K : Array Value) : Blk ((w.alloc (.cells #[.int .u64 0, .slice none 0 0] 25)).alloc (.cells #[.int .u64 0, .int .i64 0, .int .u64 0] 27)) w.heap.size 25 #[.int .u64 0, .slice none 0 0] ∧ Blk (((w.alloc (.cells #[.int .u64 0, .slice none 0 0] 25)).alloc (.cells #[.int .u64 0, .int .i64 0, .int .u64 0] 27)).setRow w.heap.size H) (w.heap.size + 1) 27 #[.int .u64 0, .int .i64 0, .int .u64 0] ∧
    Ext w ((((w.alloc (.cells #[.int .u64 0, .slice none 0 0] 25)).alloc (.cells #[.int .u64 0, .int .i64 0, .int .u64 0] 27)).setRow w.heap.size H).setRow (w.heap.size + 1) K) ∧ Blk ((((w.alloc (.cells #[.int .u64 0, .slice none 0 0] 25)).alloc (.cells #[.int .u64 0, .int .i64 0, .int .u64 0] 27)).setRow w.heap.size H).setRow (w.heap.size + 1) K) w.heap.size 25 H ∧ Blk ((((w.alloc (.cells #[.int .u64 0, .slice none 0 0] 25)).alloc (.cells #[.int .u64 0, .int .i64 0, .int .u64 0] 27)).setRow w.heap.size H).setRow (w.heap.size + 1) K) (w.heap.size + 1) 27 K := by
  have zz1 : Blk ((w.alloc (.cells #[.int .u64 0, .slice none 0 0] 25)).alloc (.cells #[.int .u64 0, .int .i64 0, .int .u64 0] 27)) w.heap.size 25 #[.int .u64 0, .slice none 0 0] := (Blk.new _ _ _).alloc _
  have zz2 : Blk (((w.alloc (.cells #[.int .u64 0, .slice none 0 0] 25)).alloc (.cells #[.int .u64 0, .int .i64 0, .int .u64 0] 27)).setRow w.heap.size H) (w.heap.size + 1) 27 #[.int .u64 0, .int .i64 0, .int .u64 0] := Blk.apart (blk_at (by simp)) (by omega) _
  exact ⟨zz1, zz2, ((((Ext.refl w).alloc _).alloc _).row (Nat.le_refl _) _).row (by omega) _, (zz1.row _).apart (by omega) _, zz2.row _⟩
attribute [local irreducible] World.setRow World.alloc Blk
theorem getD_pg {M : List Pg} {i : Nat} {z : Pg} (h : i < M.length) : M.getD i z = M[i] := by rw [List.getD, List.getElem?_eq_getElem h]; rfl
theorem pgs_dec {M N : List Pg} {z : Pg} (h : M.length = N.length) (he : ∀ i, i < M.length → M.getD i z = N.getD i z) : M = N := by
  apply List.ext_getElem h
  intro i h1 h2
  have := he i h1
  rwa [getD_pg h1, getD_pg h2] at this
set_option maxHeartbeats 2000000 in
theorem rsame19_c (A : Option Addr) (M : List Pg) (c : Nat) (B : Option Addr) (N : List Pg) (d : Nat) (w : World) (hr : RowV KG w A M c) (hs : RowV KG w B N d) :
    Calls Tryd.prog 21 #[.slice A M.length c, .slice B N.length d] w fun r w' => r = .returned (.bool (decide (M = N))) ∧ Ext w w' := by
  by_cases hl : M.length = N.length
  case neg =>
    have hq : Hid (decide (M = N) = false) := Lib.hid (by rw [decide_eq_false_iff_not]; exact fun e => hl (by rw [e]))
    have dl : ((M.length : Int) != (N.length : Int)) = true := by simp; omega
    have HE := Lib.hid (Ext.refl w)
    clear hl
    go_enter Tryd.func21, Tryd.ntmps21
    go_wp2
    go_ret
    exact ⟨by rw [hq.out]; rfl, HE.out⟩
  have dl : ((M.length : Int) != (N.length : Int)) = false := by simp; omega
  have Hl := Lib.hid hl
  have HD : (∀ j, j < M.length → M.getD j KG.d = N.getD j KG.d) → decide (M = N) = true := fun h => decide_eq_true (pgs_dec hl h)
  have HN : ∀ j, decide (M.getD j KG.d = N.getD j KG.d) = false → decide (M = N) = false := fun j h => decide_eq_false fun e => by rw [e] at h; simp at h
  generalize decide (M = N) = D at HD HN ⊢
  clear hl
  have hb : M.length ≤ 9223372036854775807 := by have := hr.2.2; omega
  have hbN : N.length ≤ 9223372036854775807 := by have := hs.2.2; omega
  have HE := Lib.hid (Ext.refl w)
  go_enter Tryd.func21, Tryd.ntmps21
  go_wp2_with fail
  clear dl
  go_loopw [5] (fun i wr => ∃ j : Nat, j ≤ M.length ∧ i = .int .i64 j ∧ Hid (∀ i, i < j → M.getD i KG.d = N.getD i KG.d) ∧ Ext w wr) (fun i _ => (M.length - intOf i).toNat)
  case atStart => exact ⟨0, by omega, rfl, Lib.hid fun i hi => by omega, HE.out⟩
  case round =>
    clear HE
    obtain ⟨j, hj, rfl, hq, hE⟩ := hrel
    have HE := Lib.hid hE
    clear hE
    by_cases hlt : j < M.length
    · obtain ⟨b1, o1, rfl, -, -⟩ := hr.1 (by omega)
      have hlt2 : j < N.length := by have := Hl.out; omega
      obtain ⟨b2, o2, rfl, -, -⟩ := hs.1 (by omega)
      have e1 : wr.rangeAt b1 (o1 + j * 8) (pgC (M.getD j KG.d)).toList := (hr.ext HE.out).at hlt
      have e2 : wr.rangeAt b2 (o2 + j * 8) (pgC (N.getD j KG.d)).toList := (hs.ext HE.out).at hlt2
      have hnq : ∀ w, (binOp .neq 77 (.agg (pgC (M.getD j KG.d))) (.agg (pgC (N.getD j KG.d)))).run Tryd.prog w = .ok (.bool (!decide (M.getD j KG.d = N.getD j KG.d))) w := fun w => neq_pg w _ _
      have hd := HN j
      have IK : decide (M.getD j KG.d = N.getD j KG.d) = true → Hid (∀ i, i < j + 1 → M.getD i KG.d = N.getD i KG.d) := fun h => Lib.hid fun i hi => by
        rcases Nat.lt_or_ge i j with h1 | h1
        · exact hq.out i h1
        · obtain rfl : i = j := by omega
          exact of_decide_eq_true h
      clear HD HN hq hr hs
      generalize decide (M.getD j KG.d = N.getD j KG.d) = T at *
      generalize M.getD j KG.d = x1 at *
      generalize N.getD j KG.d = x2 at *
      have hj1 : Hid (j + 1 ≤ M.length) := Lib.hid hlt
      have hjz : (j : Int) < (M.length : Int) := by omega
      have hjn : (j : Int) < (N.length : Int) := by omega
      go_wp2_with fail
      replace HE := Lib.hid HE.out.drew
      refine wp_region_seq [(0, false), (1, false), (2, false), (3, false), (4, false), (5, false), (6, false), (7, false), (8, false)] Ext (by kernel_rfl) (by kernel_rfl) Ext.refl (fun _ _ _ => Ext.trans) ?_; simp only [List.map, nth_z, nth_s]
      (repeat (first | (refine seq_skip (by rfl) ?_; intro K hK; simp only [Act.put, List.setIfInBounds_toArray, List.set_cons_zero, List.set_cons_succ]; refine hK _ ?_; clear hK K) | (refine seq_skipc (by rfl) ?_; intro K hK; simp only [Act.put, List.setIfInBounds_toArray, List.set_cons_zero, List.set_cons_succ]; refine hK _ ?_; clear hK K) | (refine seq_read (by rfl) (by rfl) ?_; intro K hK; go_big_quiet_op; first | go_big_quiet_on | (refine ⟨_, fun _ _ => rfl, ?_⟩; go_big_quiet_on))))
      refine seq_load_rng rfl rfl ((fun x hx => rgx_ext hx e1)) rfl Tryd.underlying77 (pg_info _) (by rfl) ?_; intro K hK; simp only [Act.put, List.setIfInBounds_toArray, List.set_cons_zero, List.set_cons_succ]; refine hK _ ?_; clear hK K
      (repeat (first | (refine seq_skip (by rfl) ?_; intro K hK; simp only [Act.put, List.setIfInBounds_toArray, List.set_cons_zero, List.set_cons_succ]; refine hK _ ?_; clear hK K) | (refine seq_skipc (by rfl) ?_; intro K hK; simp only [Act.put, List.setIfInBounds_toArray, List.set_cons_zero, List.set_cons_succ]; refine hK _ ?_; clear hK K) | (refine seq_read (by rfl) (by rfl) ?_; intro K hK; go_big_quiet_op; first | go_big_quiet_on | (refine ⟨_, fun _ _ => rfl, ?_⟩; go_big_quiet_on))))
      refine seq_load_rng rfl rfl ((fun x hx => rgx_ext hx e2)) rfl Tryd.underlying77 (pg_info _) (by rfl) ?_; intro K hK; simp only [Act.put, List.setIfInBounds_toArray, List.set_cons_zero, List.set_cons_succ]; refine hK _ ?_; clear hK K
      refine seq_cmp rfl rfl rfl (pg_guard) (hnq) (by rfl) ?_; intro K hK; simp only [Act.put, List.setIfInBounds_toArray, List.set_cons_zero, List.set_cons_succ]; refine hK _ ?_; clear hK K
      refine seq_done ?_
      clear hnq e1 e2
      cases T
      · have HZ := Lib.hid (hd rfl)
        clear IK hd
        go_wp2
        go_ret
        exact ⟨by rw [HZ.out]; rfl, HE.out⟩
      · have I2 := IK rfl
        clear IK hd
        go_wp2
        go_roundw
        case rel => exact ⟨j + 1, hj1.out, by go_num, I2, HE.out⟩
        case measure => have := hj1.out; simp [intOf]; omega
    · obtain rfl : j = M.length := by omega
      have hz := Lib.hid (HD hq.out)
      clear HD HN
      go_wp2
      go_ret
      exact ⟨by rw [hz.out]; rfl, HE.out⟩
theorem four_new (w : World) (a b : Array Value) : Blk ((((w.alloc (.cells a 25)).alloc (.cells b 27)).alloc (.cells #[.int .u64 0, .slice none 0 0] 25)).alloc (.cells #[.int .u64 0, .int .i64 0, .int .u64 0] 27)) w.heap.size 25 a ∧ Blk ((((w.alloc (.cells a 25)).alloc (.cells b 27)).alloc (.cells #[.int .u64 0, .slice none 0 0] 25)).alloc (.cells #[.int .u64 0, .int .i64 0, .int .u64 0] 27)) (w.heap.size + 1) 27 b ∧
    Blk ((((w.alloc (.cells a 25)).alloc (.cells b 27)).alloc (.cells #[.int .u64 0, .slice none 0 0] 25)).alloc (.cells #[.int .u64 0, .int .i64 0, .int .u64 0] 27)) (w.heap.size + 1 + 1) 25 #[.int .u64 0, .slice none 0 0] ∧ Blk ((((w.alloc (.cells a 25)).alloc (.cells b 27)).alloc (.cells #[.int .u64 0, .slice none 0 0] 25)).alloc (.cells #[.int .u64 0, .int .i64 0, .int .u64 0] 27)) (w.heap.size + 1 + 1 + 1) 27 #[.int .u64 0, .int .i64 0, .int .u64 0] ∧
    Ext w ((((w.alloc (.cells a 25)).alloc (.cells b 27)).alloc (.cells #[.int .u64 0, .slice none 0 0] 25)).alloc (.cells #[.int .u64 0, .int .i64 0, .int .u64 0] 27)) := by
  refine ⟨(((Blk.new w _ _).alloc _).alloc _).alloc _, ?_, ?_, ?_, ((((Ext.refl w).alloc _).alloc _).alloc _).alloc _⟩
  · have := (((Blk.new (w.alloc (.cells a 25)) 27 b).alloc (.cells #[.int .u64 0, .slice none 0 0] 25)).alloc (.cells #[.int .u64 0, .int .i64 0, .int .u64 0] 27))
    rwa [World.size_alloc] at this
  · have := ((Blk.new ((w.alloc (.cells a 25)).alloc (.cells b 27)) 25 #[.int .u64 0, .slice none 0 0]).alloc (.cells #[.int .u64 0, .int .i64 0, .int .u64 0] 27))
    rwa [World.size_alloc, World.size_alloc] at this
  · have := Blk.new (((w.alloc (.cells a 25)).alloc (.cells b 27)).alloc (.cells #[.int .u64 0, .slice none 0 0] 25)) 27 #[.int .u64 0, .int .i64 0, .int .u64 0]
    rwa [World.size_alloc, World.size_alloc, World.size_alloc] at this
theorem rclear19 {S : Nat} {B : Option Addr} {L : List (Nat × Nat)} {d f : Nat} (hf : f ≤ 268435600) {w : World} (m : Mem w S B L d) :
    Calls Tryd.prog 66 #[.agg #[.int .u64 (S : Int), .slice B L.length d], .int .u64 (4096 * (f : Int)), .int .u64 4096] w (MdO S (clrF L f) w) := by
  have h := rclear_c S B L d (512 * f) 512 (S / 8) (by omega) (by have := m.ok.le; omega) m.rl (by have := m.few; omega) w m.row
  rw [show ((8 * (512 * f) : Nat) : Int) = 4096 * (f : Int) by omega] at h
  refine h.mono ?_
  rintro e w' ⟨u, rfl, hown, hE⟩
  obtain ⟨A', c', rfl, hr, ho⟩ := own_row_out hown (Nat.le_refl _)
  have hl : (clearL L (512 * f) (512 * f + 512)).length ≤ L.length := cutL_len (by omega) []
  exact ⟨A', c', rfl, ⟨hr, clearL_is m.rl (by omega), m.ok, Nat.le_trans hl m.few⟩, ho, hE⟩
/-- a memory (in a block of the call's own), a pool, a frame and an error that are answered -/
def FrO (S : Nat) (K : List (Nat × Nat)) (P M F f : Nat) (e : Int) (w : World) (r : Ending) (w' : World) : Prop :=
  ∃ B d, r = .returned (.tuple #[.agg #[.int .u64 (S : Int), .slice B K.length d], (.agg #[.int .u64 (P : Int), .int .i64 (M : Int), .int .u64 (F : Int)]), .int .u64 (f : Int), .int .i64 e]) ∧ Mem w' S B K d ∧ (∀ lo, Out lo w.heap.size B K.length) ∧ Ext w w'
set_option maxHeartbeats 2000000 in
theorem rfresh19_no {S : Nat} {B : Option Addr} {L : List (Nat × Nat)} {d P M : Nat} (hM : M ≤ 64) (w : World) (m : Mem w S B L d) :
    Calls Tryd.prog 31 #[.agg #[.int .u64 (S : Int), .slice B L.length d], .agg #[.int .u64 (P : Int), .int .i64 (M : Int), .int .u64 0]] w (FrT S L P M 0 0 8 w) := by
  have ctk := fun W => rtake_no P M hM W
  have hm : ∀ W : World, Ext w W → Mem W S B L d := fun W e => m.ext e
  obtain ⟨h1, h2, k3, k4, hE⟩ := four_new w #[.int .u64 (S : Int), .slice B L.length d] #[.int .u64 (P : Int), .int .i64 (M : Int), .int .u64 0]
  have HE := Lib.hid hE
  clear hE
  go_enter Tryd.func31, Tryd.ntmps31
  go_upto_region 1 with fail
  generalize (((w.alloc (.cells #[.int .u64 (S : Int), .slice B L.length d] 25)).alloc (.cells #[.int .u64 (P : Int), .int .i64 (M : Int), .int .u64 0] 27)).alloc (.cells #[.int .u64 0, .slice none 0 0] 25)).alloc (.cells #[.int .u64 0, .int .i64 0, .int .u64 0] 27) = W1 at *
  go_wp2_with (refine wpList_load_blk (by rfl) 27 _ rfl rfl h2 Tryd.underlying27 rfl (by kernel_rfl) ?_)
  refine (ctk _).mono ?_
  rintro e w1 ⟨rfl, hE⟩
  (try replace hm := hm.ext hE); (try replace h1 := h1.ext hE); (try replace h2 := h2.ext hE); (try replace k3 := k3.ext hE); (try replace k4 := k4.ext hE); (try replace hM := hM.ext hE); (try replace HE := Lib.hid (HE.out.trans hE)); (try replace r0 := r0.ext hE); (try replace r1 := r1.ext hE); (try replace r2 := r2.ext hE); (try replace r3 := r3.ext hE); (try replace r4 := r4.ext hE); (try replace r5 := r5.ext hE); (try replace r6 := r6.ext hE)
  clear hE ctk
  go_wp2_with fail
  have l4 := k4.lt
  have hE := ((Ext.refl w1).alloc (.cells #[.int .u64 (P : Int), .int .i64 (M : Int), .int .u64 0] 27)).drew
  (try replace hm := hm.ext hE); (try replace h1 := h1.ext hE); (try replace h2 := h2.ext hE); (try replace k3 := k3.ext hE); (try replace k4 := k4.ext hE); (try replace hM := hM.ext hE); (try replace HE := Lib.hid (HE.out.trans hE)); (try replace r0 := r0.ext hE); (try replace r1 := r1.ext hE); (try replace r2 := r2.ext hE); (try replace r3 := r3.ext hE); (try replace r4 := r4.ext hE); (try replace r5 := r5.ext hE); (try replace r6 := r6.ext hE)
  clear hE
  refine wp_region_seq [(0, false), (1, false), (2, false), (3, true), (4, true), (5, false), (6, false)] (Gap (w.heap.size + 1 + 1) (w.heap.size + 1 + 1 + 1 + 1)) (by kernel_rfl) (by kernel_rfl) (Gap.refl _ _) (fun _ _ _ => Gap.trans) ?_; simp only [List.map, nth_z, nth_s]
  generalize (w1.alloc (.cells #[.int .u64 (P : Int), .int .i64 (M : Int), .int .u64 0] 27)).drew = w2 at *
  refine seq_load rfl rfl (fun x hx => Gap.blk hx (h1) (by omega)) rfl Tryd.underlying25 (by kernel_rfl) (by rfl) ?_; intro K hK; simp only [Act.put, List.setIfInBounds_toArray, List.set_cons_zero, List.set_cons_succ]; refine hK _ ?_; clear hK K
  refine seq_load rfl rfl (fun x hx => Gap.blk hx (h2) (by omega)) rfl Tryd.underlying27 (by kernel_rfl) (by rfl) ?_; intro K hK; simp only [Act.put, List.setIfInBounds_toArray, List.set_cons_zero, List.set_cons_succ]; refine hK _ ?_; clear hK K
  (repeat (first | (refine seq_skip (by rfl) ?_; intro K hK; simp only [Act.put, List.setIfInBounds_toArray, List.set_cons_zero, List.set_cons_succ]; refine hK _ ?_; clear hK K) | (refine seq_skipc (by rfl) ?_; intro K hK; simp only [Act.put, List.setIfInBounds_toArray, List.set_cons_zero, List.set_cons_succ]; refine hK _ ?_; clear hK K) | (refine seq_read (by rfl) (by rfl) ?_; intro K hK; go_big_quiet_op; first | go_big_quiet_on | (refine ⟨_, fun _ _ => rfl, ?_⟩; go_big_quiet_on))))
  refine seq_store_row rfl rfl rfl (k3) (by kernel_rfl) (by rfl) (by simp [Value.oneCell']) (by rfl) (Gap.row _ (by omega) (by omega) _) ?_; intro K hK; simp only [Act.put, List.setIfInBounds_toArray, List.set_cons_zero, List.set_cons_succ]; refine hK _ _ ?_; clear hK K
  replace k4 := k4.apart (show w.heap.size + 1 + 1 + 1 ≠ w.heap.size + 1 + 1 by omega) #[.int .u64 (S : Int), .slice B L.length d]
  refine seq_store_row rfl rfl rfl (k4) (by kernel_rfl) (by rfl) (by simp [Value.oneCell']) (by rfl) (Gap.row _ (by omega) (by omega) _) ?_; intro K hK; simp only [Act.put, List.setIfInBounds_toArray, List.set_cons_zero, List.set_cons_succ]; refine hK _ _ ?_; clear hK K
  (repeat (first | (refine seq_skip (by rfl) ?_; intro K hK; simp only [Act.put, List.setIfInBounds_toArray, List.set_cons_zero, List.set_cons_succ]; refine hK _ ?_; clear hK K) | (refine seq_skipc (by rfl) ?_; intro K hK; simp only [Act.put, List.setIfInBounds_toArray, List.set_cons_zero, List.set_cons_succ]; refine hK _ ?_; clear hK K) | (refine seq_read (by rfl) (by rfl) ?_; intro K hK; go_big_quiet_op; first | go_big_quiet_on | (refine ⟨_, fun _ _ => rfl, ?_⟩; go_big_quiet_on))))
  refine seq_done ?_
  go_wp2
  (try simp only [Exit.inBlock, Exit.then]); (try rw [Exit.noGoto_ret]); refine bodyPost_ret (results_cctt rfl _ _ rfl rfl (((k3.row _).apart (by omega) _)) ((k4.row _)) Tryd.underlying25 rfl (by kernel_rfl) Tryd.underlying27 rfl (by kernel_rfl)) rfl ?_
  have hE2 := (HE.out.row (show w.heap.size ≤ w.heap.size + 1 + 1 by omega) #[.int .u64 (S : Int), .slice B L.length d]).row (show w.heap.size ≤ w.heap.size + 1 + 1 + 1 by omega) #[.int .u64 (P : Int), .int .i64 (M : Int), .int .u64 0]
  exact ⟨B, d, rfl, hm _ hE2, hE2⟩
set_option maxHeartbeats 2000000 in
theorem rfresh19_o {S : Nat} {B : Option Addr} {L : List (Nat × Nat)} {d P M F : Nat} (hP : P ≤ 268435456) (hM : M ≤ 64) (hF : F < 2 ^ M) (h0 : F ≠ 0) (w : World) (m : Mem w S B L d) :
    Calls Tryd.prog 31 #[.agg #[.int .u64 (S : Int), .slice B L.length d], (.agg #[.int .u64 (P : Int), .int .i64 (M : Int), .int .u64 (F : Int)])] w (FrO S (clrF L (P + lowN' F)) P M (takeF F) (P + lowN' F) 0 w) := by
  have ctk := fun W => rtake_yes P M F hP hM hF h0 W
  have hlo := low_top h0 hM hF
  obtain ⟨f, hf⟩ : ∃ f, P + lowN' F = f := ⟨_, rfl⟩
  rw [hf] at ctk ⊢
  have ccl := fun W (k : Mem W S B L d) => rclear19 (f := f) (by omega) k
  have hf2 : f ≤ 268435600 := by omega
  unfold MdO at ccl
  generalize takeF F = G at *
  generalize clrF L f = K at *
  clear hlo hf h0 hF
  have hm : ∀ W : World, Ext w W → Mem W S B L d := fun W e => m.ext e
  obtain ⟨h1, h2, k3, k4, hE⟩ := four_new w #[.int .u64 (S : Int), .slice B L.length d] #[.int .u64 (P : Int), .int .i64 (M : Int), .int .u64 (F : Int)]
  have HE := Lib.hid hE
  clear hE
  go_enter Tryd.func31, Tryd.ntmps31
  go_upto_region 1 with fail
  generalize (((w.alloc (.cells #[.int .u64 (S : Int), .slice B L.length d] 25)).alloc (.cells #[.int .u64 (P : Int), .int .i64 (M : Int), .int .u64 (F : Int)] 27)).alloc (.cells #[.int .u64 0, .slice none 0 0] 25)).alloc (.cells #[.int .u64 0, .int .i64 0, .int .u64 0] 27) = W1 at *
  go_wp2_with (refine wpList_load_blk (by rfl) 27 _ rfl rfl h2 Tryd.underlying27 rfl (by kernel_rfl) ?_)
  refine (ctk _).mono ?_
  rintro e w1 ⟨rfl, hE⟩
  (try replace hm := hm.ext hE); (try replace h1 := h1.ext hE); (try replace h2 := h2.ext hE); (try replace h5 := h5.ext hE); (try replace k3 := k3.ext hE); (try replace k4 := k4.ext hE); (try replace hM := hM.ext hE); (try replace HE := Lib.hid (HE.out.trans hE)); (try replace r0 := r0.ext hE); (try replace r1 := r1.ext hE); (try replace r2 := r2.ext hE); (try replace r3 := r3.ext hE); (try replace r4 := r4.ext hE); (try replace r5 := r5.ext hE); (try replace r6 := r6.ext hE)
  clear hE ctk
  have l4 := k4.lt
  have h5 := (Blk.new w1 27 #[.int .u64 (P : Int), .int .i64 (M : Int), .int .u64 (G : Int)]).drew
  go_wp2_with fail
  have hE := ((Ext.refl w1).alloc (.cells #[.int .u64 (P : Int), .int .i64 (M : Int), .int .u64 (G : Int)] 27)).drew
  have h5b := h5
  clear h5
  (try replace hm := hm.ext hE); (try replace h1 := h1.ext hE); (try replace h2 := h2.ext hE); (try replace h5 := h5.ext hE); (try replace k3 := k3.ext hE); (try replace k4 := k4.ext hE); (try replace hM := hM.ext hE); (try replace HE := Lib.hid (HE.out.trans hE)); (try replace r0 := r0.ext hE); (try replace r1 := r1.ext hE); (try replace r2 := r2.ext hE); (try replace r3 := r3.ext hE); (try replace r4 := r4.ext hE); (try replace r5 := r5.ext hE); (try replace r6 := r6.ext hE)
  clear hE
  have h5 := h5b
  clear h5b
  refine wp_region_seq [(0, false), (1, false), (2, false), (4, false), (5, false), (3, true), (6, true), (7, true), (8, false), (9, false)] (Gap (w.heap.size + 1 + 1) (w.heap.size + 1 + 1 + 1 + 1)) (by kernel_rfl) (by kernel_rfl) (Gap.refl _ _) (fun _ _ _ => Gap.trans) ?_; simp only [List.map, nth_z, nth_s]
  generalize (w1.alloc (.cells #[.int .u64 (P : Int), .int .i64 (M : Int), .int .u64 (G : Int)] 27)).drew = w2 at *
  have hl2 := k4.lt
  refine seq_load rfl rfl (fun x hx => Gap.blk hx (h1) (by omega)) rfl Tryd.underlying25 (by kernel_rfl) (by rfl) ?_; intro K hK; simp only [Act.put, List.setIfInBounds_toArray, List.set_cons_zero, List.set_cons_succ]; refine hK _ ?_; clear hK K
  (repeat (first | (refine seq_skip (by rfl) ?_; intro K hK; simp only [Act.put, List.setIfInBounds_toArray, List.set_cons_zero, List.set_cons_succ]; refine hK _ ?_; clear hK K) | (refine seq_skipc (by rfl) ?_; intro K hK; simp only [Act.put, List.setIfInBounds_toArray, List.set_cons_zero, List.set_cons_succ]; refine hK _ ?_; clear hK K) | (refine seq_read (by rfl) (by rfl) ?_; intro K hK; go_big_quiet_op; first | go_big_quiet_on | (refine ⟨_, fun _ _ => rfl, ?_⟩; go_big_quiet_on))))
  refine seq_load rfl rfl (fun x hx => Gap.blk hx (h5) (by omega)) rfl Tryd.underlying27 (by kernel_rfl) (by rfl) ?_; intro K hK; simp only [Act.put, List.setIfInBounds_toArray, List.set_cons_zero, List.set_cons_succ]; refine hK _ ?_; clear hK K
  (repeat (first | (refine seq_skip (by rfl) ?_; intro K hK; simp only [Act.put, List.setIfInBounds_toArray, List.set_cons_zero, List.set_cons_succ]; refine hK _ ?_; clear hK K) | (refine seq_skipc (by rfl) ?_; intro K hK; simp only [Act.put, List.setIfInBounds_toArray, List.set_cons_zero, List.set_cons_succ]; refine hK _ ?_; clear hK K) | (refine seq_read (by rfl) (by rfl) ?_; intro K hK; go_big_quiet_op; first | go_big_quiet_on | (refine ⟨_, fun _ _ => rfl, ?_⟩; go_big_quiet_on))))
  refine seq_call (ccl _ (hm _ HE.out)) rfl Tryd.func66 (by kernel_rfl) (by kernel_rfl) (by rfl) (by rfl) ?_; intro K hK; rintro e w' ⟨B3, d3, rfl, hM3, hO3, hE⟩; refine ⟨_, rfl, (Gap.ext hE), ?_⟩; simp only [Act.put, List.setIfInBounds_toArray, List.set_cons_zero, List.set_cons_succ]; refine hK _ _ ?_; clear hK K
  (try replace hm := hm.ext hE); (try replace h1 := h1.ext hE); (try replace h2 := h2.ext hE); (try replace h5 := h5.ext hE); (try replace k3 := k3.ext hE); (try replace k4 := k4.ext hE); (try replace hM := hM.ext hE); (try replace HE := Lib.hid (HE.out.trans hE)); (try replace r0 := r0.ext hE); (try replace r1 := r1.ext hE); (try replace r2 := r2.ext hE); (try replace r3 := r3.ext hE); (try replace r4 := r4.ext hE); (try replace r5 := r5.ext hE); (try replace r6 := r6.ext hE)
  clear hE
  have hO4 := hO3 (w.heap.size + 1 + 1)
  have hO5 : ∀ lo, Out lo w.heap.size B3 K.length := fun lo => (hO3 lo).mono (by omega)
  clear hO3
  refine seq_store_row rfl rfl rfl (k3) (by kernel_rfl) (by rfl) (by simp [Value.oneCell']) (by rfl) (Gap.row _ (by omega) (by omega) _) ?_; intro K hK; simp only [Act.put, List.setIfInBounds_toArray, List.set_cons_zero, List.set_cons_succ]; refine hK _ _ ?_; clear hK K
  replace k4 := k4.apart (show w.heap.size + 1 + 1 + 1 ≠ w.heap.size + 1 + 1 by omega) #[.int .u64 (S : Int), .slice B3 K.length d3]
  refine seq_store_row rfl rfl rfl (k4) (by kernel_rfl) (by rfl) (by simp [Value.oneCell']) (by rfl) (Gap.row _ (by omega) (by omega) _) ?_; intro K hK; simp only [Act.put, List.setIfInBounds_toArray, List.set_cons_zero, List.set_cons_succ]; refine hK _ _ ?_; clear hK K
  (repeat (first | (refine seq_skip (by rfl) ?_; intro K hK; simp only [Act.put, List.setIfInBounds_toArray, List.set_cons_zero, List.set_cons_succ]; refine hK _ ?_; clear hK K) | (refine seq_skipc (by rfl) ?_; intro K hK; simp only [Act.put, List.setIfInBounds_toArray, List.set_cons_zero, List.set_cons_succ]; refine hK _ ?_; clear hK K) | (refine seq_read (by rfl) (by rfl) ?_; intro K hK; go_big_quiet_op; first | go_big_quiet_on | (refine ⟨_, fun _ _ => rfl, ?_⟩; go_big_quiet_on))))
  refine seq_done ?_
  go_wp2
  (try simp only [Exit.inBlock, Exit.then]); (try rw [Exit.noGoto_ret]); refine bodyPost_ret (results_cctt rfl _ _ rfl rfl (((k3.row _).apart (by omega) _)) ((k4.row _)) Tryd.underlying25 rfl (by kernel_rfl) Tryd.underlying27 rfl (by kernel_rfl)) rfl ?_
  have hE2 := (HE.out.row (show w.heap.size ≤ w.heap.size + 1 + 1 by omega) #[.int .u64 (S : Int), .slice B3 K.length d3]).row (show w.heap.size ≤ w.heap.size + 1 + 1 + 1 by omega) #[.int .u64 (P : Int), .int .i64 (M : Int), .int .u64 (G : Int)]
  exact ⟨B3, d3, rfl, (hM3.row' hO4 (by omega) (by omega) _).row' hO4 (by omega) (by omega) _, hO5, hE2⟩
set_option maxHeartbeats 2000000 in
theorem rback19_o {S : Nat} {B : Option Addr} {L : List (Nat × Nat)} {d P M F f : Nat} (hP : P ≤ 268435456) (hM : M ≤ 64) (hF : F < 18446744073709551616) (hf : f ≤ 268435600) (w : World) (m : Mem w S B L d) :
    Calls Tryd.prog 43 #[.agg #[.int .u64 (S : Int), .slice B L.length d], (.agg #[.int .u64 (P : Int), .int .i64 (M : Int), .int .u64 (F : Int)]), .int .u64 (f : Int)] w fun r w' => ∃ B' d', r = .returned (.tuple #[.agg #[.int .u64 (S : Int), .slice B' (clrF L f).length d'], (.agg #[.int .u64 (P : Int), .int .i64 (M : Int), .int .u64 (freedN P M F f : Int)])]) ∧ Mem w' S B' (clrF L f) d' ∧ (∀ lo, Out lo w.heap.size B' (clrF L f).length) ∧ Ext w w' := by
  have cgv := fun W => rgive_c P M F f hP hM hF (by omega) W
  have ccl := fun W (k : Mem W S B L d) => rclear19 (f := f) hf k
  unfold MdO at ccl
  generalize (if isB P M F f then (0 : Int) else 1) = er at *
  generalize freedN P M F f = G at *
  generalize clrF L f = K at *
  have hm : ∀ W : World, Ext w W → Mem W S B L d := fun W e => m.ext e
  obtain ⟨h1, h2, k3, k4, hE⟩ := four_new w #[.int .u64 (S : Int), .slice B L.length d] #[.int .u64 (P : Int), .int .i64 (M : Int), .int .u64 (F : Int)]
  have HE := Lib.hid hE
  clear hE
  go_enter Tryd.func43, Tryd.ntmps43
  go_upto_region 1 with fail
  generalize (((w.alloc (.cells #[.int .u64 (S : Int), .slice B L.length d] 25)).alloc (.cells #[.int .u64 (P : Int), .int .i64 (M : Int), .int .u64 (F : Int)] 27)).alloc (.cells #[.int .u64 0, .slice none 0 0] 25)).alloc (.cells #[.int .u64 0, .int .i64 0, .int .u64 0] 27) = W1 at *
  go_wp2_with (refine wpList_load_blk (by rfl) 27 _ rfl rfl h2 Tryd.underlying27 rfl (by kernel_rfl) ?_)
  refine (cgv _).mono ?_
  rintro e w1 ⟨rfl, hE⟩
  (try replace hm := hm.ext hE); (try replace h1 := h1.ext hE); (try replace h2 := h2.ext hE); (try replace h5 := h5.ext hE); (try replace k3 := k3.ext hE); (try replace k4 := k4.ext hE); (try replace hM := hM.ext hE); (try replace HE := Lib.hid (HE.out.trans hE)); (try replace r0 := r0.ext hE); (try replace r1 := r1.ext hE); (try replace r2 := r2.ext hE); (try replace r3 := r3.ext hE); (try replace r4 := r4.ext hE); (try replace r5 := r5.ext hE); (try replace r6 := r6.ext hE)
  clear hE cgv
  have l4 := k4.lt
  have h5 := (Blk.new w1 27 #[.int .u64 (P : Int), .int .i64 (M : Int), .int .u64 (G : Int)]).drew
  go_wp2_with fail
  have hE := ((Ext.refl w1).alloc (.cells #[.int .u64 (P : Int), .int .i64 (M : Int), .int .u64 (G : Int)] 27)).drew
  have h5b := h5
  clear h5
  (try replace hm := hm.ext hE); (try replace h1 := h1.ext hE); (try replace h2 := h2.ext hE); (try replace h5 := h5.ext hE); (try replace k3 := k3.ext hE); (try replace k4 := k4.ext hE); (try replace hM := hM.ext hE); (try replace HE := Lib.hid (HE.out.trans hE)); (try replace r0 := r0.ext hE); (try replace r1 := r1.ext hE); (try replace r2 := r2.ext hE); (try replace r3 := r3.ext hE); (try replace r4 := r4.ext hE); (try replace r5 := r5.ext hE); (try replace r6 := r6.ext hE)
  clear hE
  have h5 := h5b
  clear h5b
  refine wp_region_seq [(0, false), (1, false), (2, false), (4, false), (3, true), (5, true), (6, true)] (Gap (w.heap.size + 1 + 1) (w.heap.size + 1 + 1 + 1 + 1)) (by kernel_rfl) (by kernel_rfl) (Gap.refl _ _) (fun _ _ _ => Gap.trans) ?_; simp only [List.map, nth_z, nth_s]
  generalize (w1.alloc (.cells #[.int .u64 (P : Int), .int .i64 (M : Int), .int .u64 (G : Int)] 27)).drew = w2 at *
  have hl2 := k4.lt
  refine seq_load rfl rfl (fun x hx => Gap.blk hx (h1) (by omega)) rfl Tryd.underlying25 (by kernel_rfl) (by rfl) ?_; intro K hK; simp only [Act.put, List.setIfInBounds_toArray, List.set_cons_zero, List.set_cons_succ]; refine hK _ ?_; clear hK K
  (repeat (first | (refine seq_skip (by rfl) ?_; intro K hK; simp only [Act.put, List.setIfInBounds_toArray, List.set_cons_zero, List.set_cons_succ]; refine hK _ ?_; clear hK K) | (refine seq_skipc (by rfl) ?_; intro K hK; simp only [Act.put, List.setIfInBounds_toArray, List.set_cons_zero, List.set_cons_succ]; refine hK _ ?_; clear hK K) | (refine seq_read (by rfl) (by rfl) ?_; intro K hK; go_big_quiet_op; first | go_big_quiet_on | (refine ⟨_, fun _ _ => rfl, ?_⟩; go_big_quiet_on))))
  refine seq_load rfl rfl (fun x hx => Gap.blk hx (h5) (by omega)) rfl Tryd.underlying27 (by kernel_rfl) (by rfl) ?_; intro K hK; simp only [Act.put, List.setIfInBounds_toArray, List.set_cons_zero, List.set_cons_succ]; refine hK _ ?_; clear hK K
  refine seq_call (ccl _ (hm _ HE.out)) rfl Tryd.func66 (by kernel_rfl) (by kernel_rfl) (by rfl) (by rfl) ?_; intro K hK; rintro e w' ⟨B3, d3, rfl, hM3, hO3, hE⟩; refine ⟨_, rfl, (Gap.ext hE), ?_⟩; simp only [Act.put, List.setIfInBounds_toArray, List.set_cons_zero, List.set_cons_succ]; refine hK _ _ ?_; clear hK K
  (try replace hm := hm.ext hE); (try replace h1 := h1.ext hE); (try replace h2 := h2.ext hE); (try replace h5 := h5.ext hE); (try replace k3 := k3.ext hE); (try replace k4 := k4.ext hE); (try replace hM := hM.ext hE); (try replace HE := Lib.hid (HE.out.trans hE)); (try replace r0 := r0.ext hE); (try replace r1 := r1.ext hE); (try replace r2 := r2.ext hE); (try replace r3 := r3.ext hE); (try replace r4 := r4.ext hE); (try replace r5 := r5.ext hE); (try replace r6 := r6.ext hE)
  clear hE
  have hO4 := hO3 (w.heap.size + 1 + 1)
  have hO5 : ∀ lo, Out lo w.heap.size B3 K.length := fun lo => (hO3 lo).mono (by omega)
  clear hO3
  refine seq_store_row rfl rfl rfl (k3) (by kernel_rfl) (by rfl) (by simp [Value.oneCell']) (by rfl) (Gap.row _ (by omega) (by omega) _) ?_; intro K hK; simp only [Act.put, List.setIfInBounds_toArray, List.set_cons_zero, List.set_cons_succ]; refine hK _ _ ?_; clear hK K
  replace k4 := k4.apart (show w.heap.size + 1 + 1 + 1 ≠ w.heap.size + 1 + 1 by omega) #[.int .u64 (S : Int), .slice B3 K.length d3]
  refine seq_store_row rfl rfl rfl (k4) (by kernel_rfl) (by rfl) (by simp [Value.oneCell']) (by rfl) (Gap.row _ (by omega) (by omega) _) ?_; intro K hK; simp only [Act.put, List.setIfInBounds_toArray, List.set_cons_zero, List.set_cons_succ]; refine hK _ _ ?_; clear hK K
  refine seq_done ?_
  go_wp2
  (try simp only [Exit.inBlock, Exit.then]); (try rw [Exit.noGoto_ret]); refine bodyPost_ret (results_cc rfl _ _ rfl rfl (((k3.row _).apart (by omega) _)) ((k4.row _)) Tryd.underlying25 rfl (by first | exact xx_info _ | kernel_rfl) Tryd.underlying27 rfl (by first | exact xx_info _ | kernel_rfl)) rfl ?_
  have hE2 := (HE.out.row (show w.heap.size ≤ w.heap.size + 1 + 1 by omega) #[.int .u64 (S : Int), .slice B3 K.length d3]).row (show w.heap.size ≤ w.heap.size + 1 + 1 + 1 by omega) #[.int .u64 (P : Int), .int .i64 (M : Int), .int .u64 (G : Int)]
  exact ⟨B3, d3, rfl, (hM3.row' hO4 (by omega) (by omega) _).row' hO4 (by omega) (by omega) _, hO5, hE2⟩
end Go.Proofs.YticbjiddbjgikaaDoor
/- atlasref19: Frames. -/
namespace Go.Proofs.YticbjiddbjgikaaDoor
open Go.ChangeShapes Go.WideShapes Go.ChangeAt Go.RowKit
set_option linter.unusedVariables false
set_option linter.unusedSimpArgs false
set_option maxRecDepth 10000
attribute [local irreducible] World.setRow World.alloc Blk
def FrC (S : Nat) (B : Option Addr) (L : List (Nat × Nat)) (d n : Nat) : Prop := ∀ (t : Nat) (w : World), TreeOk S L n t → Mem w S B L d →
    Calls Tryd.prog 26 #[.agg #[.int .u64 (S : Int), .slice B L.length d], .int .u64 (t : Int), .int .i64 (n : Int)] w (MadeK KU (frs L n t) w)
theorem frI_few {S : Nat} {L : List (Nat × Nat)} {n t k : Nat} (h : TreeOk S L n t) (hk : k ≤ 512) : (frI L n t k).length ≤ 64 := by
  obtain ⟨r, e⟩ := frI_pre L n t (512 - k) k
  rw [show k + (512 - k) = 512 by omega, ← frs_frI] at e
  have h1 := h.le
  have h2 : (frs L n t).length = (tabs L n t).length := by unfold frs; rw [List.length_map]
  rw [e, List.length_append] at h2
  omega
set_option maxHeartbeats 8000000 in
theorem rframes19_step {S : Nat} {B : Option Addr} {L : List (Nat × Nat)} {d : Nat} (hS : S ≤ 1099511627776) (n : Nat) (hn : n ≤ 2) (ih : ∀ n', n = n' + 1 → FrC S B L d n') : FrC S B L d n := by
  intro t w hT hM
  have ht : t < 17592186044416 := by have := hT.top; omega
  have h1 := Blk.new w 25 #[.int .u64 (S : Int), .slice B L.length d]
  have HE := Lib.hid ((Ext.refl w).alloc (.cells #[.int .u64 (S : Int), .slice B L.length d] 25))
  have hMm : ∀ W : World, Ext w W → Mem W S B L d := fun W e => hM.ext e
  unfold MadeK
  go_enter Tryd.func26, Tryd.ntmps26
  go_wp2_with fail
  obtain ⟨W4, hW4⟩ : ∃ W4, W4 = (w.alloc (.cells #[.int .u64 (S : Int), .slice B L.length d] 25)).alloc (.cells #[.int .u64 (t : Int)] 22) := ⟨_, rfl⟩
  have hE4 : Ext w W4 := by rw [hW4]; exact ((Ext.refl w).alloc _).alloc _
  have hown0 : W4.ownsRow (w.heap.size + 1) KU.e KU.sz (.slice (some ⟨w.heap.size + 1, 0, none⟩) 1 1) [t].length (KU.flat [t]) := by
    have hb : Blk W4 (w.heap.size + 1) 22 #[.int .u64 (t : Int)] := by rw [hW4]; exact blk_at (by simp)
    unfold Blk at hb
    exact ⟨rfl, .inr ⟨w.heap.size + 1, 1, _, rfl, by omega, hb, by simp, by unfold maxLen; omega, rfl, rfl⟩⟩
  have hsz0 : w.heap.size + 1 ≤ W4.heap.size := by rw [hW4]; simp
  replace h1 : Blk W4 w.heap.size 25 #[.int .u64 (S : Int), .slice B L.length d] := by rw [hW4]; exact h1.alloc _
  rw [← hW4]
  clear hW4 HE
  go_loopw [7, 8] (fun v i wr => ∃ k : Nat, k ≤ 512 ∧ i = .int .i64 k ∧ wr.ownsRow (w.heap.size + 1) KU.e KU.sz v (frI L n t k).length (KU.flat (frI L n t k)) ∧ w.heap.size + 1 ≤ wr.heap.size ∧ Blk wr w.heap.size 25 #[.int .u64 (S : Int), .slice B L.length d] ∧ Ext w wr) (fun _ i _ => (512 - intOf i).toNat)
  case atStart => exact ⟨0, by omega, rfl, by rw [frI_0]; exact hown0, hsz0, h1, hE4⟩
  case round =>
    clear h1 hown0 hsz0 hE4
    obtain ⟨k, hk, rfl, hown, hszw, h1, hE⟩ := hrel
    have HE := Lib.hid hE
    clear hE
    by_cases hlt : k < 512
    case neg =>
      obtain rfl : k = 512 := by omega
      rw [← frs_frI] at hown
      clear hlt hk
      go_wp2
      go_ret
      exact ⟨_, rfl, own_base hown (by omega), HE.out⟩
    have dk : decide ((k : Int) < 512) = true := by simp; omega
    have cat := fun W (m : Mem W S B L d) => rat19_c m (t := t) (i := k) (by omega) hlt
    have clk := fun W => rlinks19_c (tE L t k) n hn W
    have hsk := @frI_skip L n t k
    have hgo := @frI_go L n t k
    have hfew := frI_few hT hk
    have hch : goB L t k n = true → ∃ n', n = n' + 1 ∧ TreeOk S L n' (tE L t k).pp := fun q => by
      cases n with
      | zero => rw [go_zero] at q; cases q
      | succ n' => exact ⟨n', rfl, (hT.child hlt q).1⟩
    have hgb : goB L t k n = (linkB (tE L t k) && !badB (tE L t k) (n : Int)) := by unfold goB; rfl
    rw [hgb] at hsk hgo hch
    clear hgb
    have hpp := tE_pp L t k
    obtain ⟨p, hp⟩ : ∃ p, tE L t k = p := ⟨_, rfl⟩
    rw [hp] at cat clk hsk hgo hch hpp
    clear hp
    go_wp2_with (refine wpList_load_blk (by rfl) 25 _ rfl rfl h1 Tryd.underlying25 rfl (by kernel_rfl) ?_)
    refine (cat _ (hMm _ HE.out)).mono ?_
    rintro e w1 ⟨rfl, hE⟩
    replace hown := own_ext hown hE
    replace hszw := Nat.le_trans hszw hE.size
    (try replace hb := hb.ext hE); (try replace h1 := h1.ext hE); (try replace h4 := h4.ext hE); (try replace hM := hM.ext hE); (try replace HE := Lib.hid (HE.out.trans hE)); (try replace r0 := r0.ext hE); (try replace r1 := r1.ext hE); (try replace r2 := r2.ext hE); (try replace r3 := r3.ext hE); (try replace r4 := r4.ext hE); (try replace r5 := r5.ext hE); (try replace r6 := r6.ext hE)
    clear hE cat
    have hszw1 := hszw
    have hown1 := hown
    have zz1 : Blk (w1.alloc (.cells #[.bool false, .bool false, .bool false, .bool false, .bool false, .bool false, .bool false, .bool false, .int .u64 0, .int .u64 0, .int .u64 0] 32)) w1.heap.size 32 #[.bool false, .bool false, .bool false, .bool false, .bool false, .bool false, .bool false, .bool false, .int .u64 0, .int .u64 0, .int .u64 0] := Blk.new _ _ _; have hE := ((Ext.refl w1).alloc (.cells #[.bool false, .bool false, .bool false, .bool false, .bool false, .bool false, .bool false, .bool false, .int .u64 0, .int .u64 0, .int .u64 0] 32)).row (Nat.le_refl w1.heap.size) (ptC p); have hE0 := hE; (try replace hb := hb.ext hE); (try replace h1 := h1.ext hE); (try replace h4 := h4.ext hE); (try replace hM := hM.ext hE); (try replace HE := Lib.hid (HE.out.trans hE)); (try replace r0 := r0.ext hE); (try replace r1 := r1.ext hE); (try replace r2 := r2.ext hE); (try replace r3 := r3.ext hE); (try replace r4 := r4.ext hE); (try replace r5 := r5.ext hE); (try replace r6 := r6.ext hE); clear hE; have h4 := zz1.row (ptC p)
    replace hown1 := own_ext hown1 hE0
    replace hszw1 := Nat.le_trans hszw1 hE0.size
    clear hE0 hown hszw
    go_wp2_with (first | ((refine wpList_store_blk rfl 32 _ _ rfl rfl rfl zz1 (pt_info _) (by simp [ptC_size]) (ptC_one _) ?_); clear zz1; generalize (w1.alloc (.cells #[.bool false, .bool false, .bool false, .bool false, .bool false, .bool false, .bool false, .bool false, .int .u64 0, .int .u64 0, .int .u64 0] 32)).setRow w1.heap.size (ptC p) = X at *) | (refine wpList_load_blk (by rfl) 32 _ rfl rfl h4 Tryd.underlying32 rfl (by kernel_rfl) ?_))
    refine (clk _).mono ?_
    rintro e w2 ⟨rfl, hE⟩
    replace hown1 := own_ext hown1 hE
    replace hszw1 := Nat.le_trans hszw1 hE.size
    (try replace hb := hb.ext hE); (try replace h1 := h1.ext hE); (try replace h4 := h4.ext hE); (try replace hM := hM.ext hE); (try replace HE := Lib.hid (HE.out.trans hE)); (try replace r0 := r0.ext hE); (try replace r1 := r1.ext hE); (try replace r2 := r2.ext hE); (try replace r3 := r3.ext hE); (try replace r4 := r4.ext hE); (try replace r5 := r5.ext hE); (try replace r6 := r6.ext hE)
    clear hE clk
    cases hg : (linkB p && !badB p (n : Int))
    case false =>
      have e := hsk hg
      rw [← e] at hown1
      clear hsk hgo hch hg hfew h4 e
      go_wp2
      go_roundw
      case rel => exact ⟨k + 1, by omega, by go_num, hown1, hszw1, h1, HE.out⟩
      case measure => simp [intOf]; omega
    obtain ⟨n', hn', hT3⟩ := hch hg
    have e := hgo hg
    rw [show n - 1 = n' by omega] at e
    have crp := fun W (m : Mem W S B L d) => ih n' hn' p.pp W hT3 m
    have hs : (n : Int) - 1 = (n' : Int) := by omega
    have hf4 : (frs L n' p.pp).length ≤ 64 := by
      have := hT3.le
      unfold frs
      rw [List.length_map]
      exact this
    have x9 := (h4.cell 9).trans (ptC_pp p)
    unfold MadeK at crp
    generalize frs L n' p.pp = K4 at *
    generalize frI L n t k = M0 at *
    clear hsk hgo hch hg hn' hT3 ih
    go_wp2_with (refine wpList_load_blk (by rfl) 25 _ rfl rfl h1 Tryd.underlying25 rfl (by kernel_rfl) ?_)
    refine (crp _ (hMm _ HE.out)).mono ?_
    rintro e4 w4 ⟨v4, rfl, hown4, hE⟩
    obtain ⟨A4, c4, rfl, r4, -⟩ := own_rowv ku_ok hown4
    replace hown1 := own_ext hown1 hE
    replace hszw1 := Nat.le_trans hszw1 hE.size
    (try replace hb := hb.ext hE); (try replace h1 := h1.ext hE); (try replace h4 := h4.ext hE); (try replace hM := hM.ext hE); (try replace HE := Lib.hid (HE.out.trans hE)); (try replace r0 := r0.ext hE); (try replace r1 := r1.ext hE); (try replace r2 := r2.ext hE); (try replace r3 := r3.ext hE); (try replace r4 := r4.ext hE); (try replace r5 := r5.ext hE); (try replace r6 := r6.ext hE)
    clear hE crp hs x9 h4 hown4
    have hap := append_rows ku_ok w4 (w.heap.size + 1) u7 M0 hown1 A4 K4 c4 r4 (by show (M0.length + K4.length) * 8 ≤ _; omega) (by unfold maxLen; omega) hszw1
    rw [← e] at hap
    clear e hf4 hfew hown1 r4
    go_wp2_with (at_builtin; refine wpList_append_run' _ rfl _ _ _ rfl _ _ rfl rfl _ (hap _) ?_; rintro v5 w5 ⟨hown5, -, hB5⟩; have h1b := Blk.lower h1 hB5 (by omega); have hsz5 := Nat.le_trans hszw1 hB5.size; have HE5 : Hid (Ext w w5) := Lib.hid (Below.trans HE.out (Below.mono hB5 (Nat.le_succ _))))
    go_roundw
    case rel => exact ⟨k + 1, by omega, by go_num, hown5, hsz5, h1b, HE5.out⟩
    case measure => simp [intOf]; omega
theorem rframes19_c {S : Nat} {B : Option Addr} {L : List (Nat × Nat)} {d : Nat} (hS : S ≤ 1099511627776) : ∀ n : Nat, n ≤ 2 → FrC S B L d n
  | 0, h => rframes19_step hS 0 h fun n' e => by cases e
  | n + 1, h => rframes19_step hS (n + 1) h fun n' e => by
    cases e
    exact rframes19_c hS n (by omega)
end Go.Proofs.YticbjiddbjgikaaDoor
