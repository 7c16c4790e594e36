/- TableKeeps. -/
import Derived.Test.YtcllbidhjggjiaaDoorLaw19a
import Derived.Test.YtcllbidhjggjiaaDoorGrtac
import Derived.Test.YtcllbidhjggjiaaDoorGflo
namespace Go.Proofs.YtcllbidhjggjiaaDoor
open Go.ChangeShapes Go.WideShapes Go.ChangeAt Go.RowKit
set_option linter.unusedVariables false
set_option linter.unusedSimpArgs false
set_option maxRecDepth 10000

theorem own_slP {w : World} {b : Nat} {e : TypeId} {size : Nat} {v : Value} {n : Nat} {xs : List Value} (h : w.ownsRow b e size v n xs) : ∃ A c, v = .slice A n c := by
  rcases h.2 with ⟨rfl, rfl⟩ | ⟨g, cap, cur, rfl, _⟩
  · exact ⟨_, _, rfl⟩
  · exact ⟨_, _, rfl⟩
def zPg : Pg := ⟨0, 0, 0, ⟨false, false, false, false⟩, false⟩
theorem zpg_build : Tryd.prog.built 49 [] = some (pgC zPg) := by unfold zPg; simp only [pgC_def, pmC_def]; kernel_rfl
attribute [irreducible] zPg
attribute [local irreducible] World.setRow World.alloc Blk
set_option maxRecDepth 100000 in
set_option maxHeartbeats 8000000 in
theorem TableKeeps_w {T : World → Prop} (C : TableC T) (caw : Awk19 T) (S : Nat) (B : Option Addr) (L : List (Nat × Nat)) (d t : Nat) (l : Int) (a : Nat) (p : Pt) (hS : S < 18446744073709551616) (hL : IsCells L) (ht : t < 18446744073709551616) (hl : -9223372036854775808 ≤ l ∧ l ≤ 9223372036854775807) (a1 : a < 18446744073709551616) (hp : p.ok) (w : World) (hm : RowL w B L d) (hT : T w) :
    Calls Tryd.prog 6 #[.agg #[.int .u64 (S : Int), .slice B L.length d], .int .u64 (t : Int), .int .i64 l, .int .u64 (a : Int), .agg (ptC p)] w fun r w' => r = .returned (.bool true) ∧ Ext w w' := by
  obtain ⟨h1, h2⟩ := blk_two (Ext.refl ((w.alloc (.cells #[.int .u64 (S : Int), .slice B L.length d] 25)).alloc (.cells (ptC p) 53)))
  have HE := Lib.hid (((Ext.refl w).alloc (.cells #[.int .u64 (S : Int), .slice B L.length d] 25)).alloc (.cells (ptC p) 53))
  generalize hW1 : (w.alloc (.cells #[.int .u64 (S : Int), .slice B L.length d] 25)).alloc (.cells (ptC p) 53) = W1 at h1 h2 HE
  have HW1 := Lib.hid hW1
  clear hW1
  have hTE : ∀ W : World, Ext w W → T W := fun W e => C.ext _ _ hT e
  have hmr : ∀ W : World, Ext w W → RowL W B L d := fun W e => hm.ext e
  have cft := fun W (r : RowL W B L d) => fits19_c S B L d t l hS hL ht W r
  have cia := fun W => ris5_c (a : Int) (by omega) (by omega) W
  have cma := fun W => rmay_c p W
  unfold Awk19 at caw
  cases hf : fitR S L t l
  · rw [hf] at cft
    clear cia hf cma
    go_enter Tryd.func6, Tryd.ntmps6
    go_upto_region 1 with fail
    rw [HW1.out]
    clear HW1
    go_wp2_with (fail); refine (caw _ (hTE _ HE.out)).mono ?_; rintro e w' ⟨rfl, hE⟩; (try replace hm := hm.ext hE); (try replace h1 := h1.ext hE); (try replace h2 := h2.ext hE); (try replace h3 := h3.ext hE); (try replace hN := hN.ext hE); (try replace HE := Lib.hid (HE.out.trans hE)); (try replace r0 := r0.ext hE); (try replace r1 := r1.ext hE); (try replace r2 := r2.ext hE); (try replace r3 := r3.ext hE); (try replace r4 := r4.ext hE); (try replace r5 := r5.ext hE); (try replace r6 := r6.ext hE); clear hE
    go_wp2_with ((refine wpList_load_blk (by rfl) 25 _ rfl rfl h1 Tryd.underlying25 rfl (by kernel_rfl) ?_)); refine (cft _ (hmr _ HE.out)).mono ?_; rintro e w' ⟨rfl, hE⟩; (try replace hm := hm.ext hE); (try replace h1 := h1.ext hE); (try replace h2 := h2.ext hE); (try replace h3 := h3.ext hE); (try replace hN := hN.ext hE); (try replace HE := Lib.hid (HE.out.trans hE)); (try replace r0 := r0.ext hE); (try replace r1 := r1.ext hE); (try replace r2 := r2.ext hE); (try replace r3 := r3.ext hE); (try replace r4 := r4.ext hE); (try replace r5 := r5.ext hE); (try replace r6 := r6.ext hE); clear hE
    clear cft
    clear h1 h2
    go_wp2_with fail
    refine (caw _ (hTE _ HE.out)).mono ?_
    rintro e wz ⟨rfl, hE⟩
    replace HE := Lib.hid (HE.out.trans hE)
    clear hE
    go_wp2
    go_ret
    exact ⟨rfl, HE.out⟩
  rw [hf] at cft
  cases hva : vaB (a : Int)
  · rw [hva] at cia
    clear hf hva cma
    go_enter Tryd.func6, Tryd.ntmps6
    go_upto_region 1 with fail
    rw [HW1.out]
    clear HW1
    go_wp2_with (fail); refine (caw _ (hTE _ HE.out)).mono ?_; rintro e w' ⟨rfl, hE⟩; (try replace hm := hm.ext hE); (try replace h1 := h1.ext hE); (try replace h2 := h2.ext hE); (try replace h3 := h3.ext hE); (try replace hN := hN.ext hE); (try replace HE := Lib.hid (HE.out.trans hE)); (try replace r0 := r0.ext hE); (try replace r1 := r1.ext hE); (try replace r2 := r2.ext hE); (try replace r3 := r3.ext hE); (try replace r4 := r4.ext hE); (try replace r5 := r5.ext hE); (try replace r6 := r6.ext hE); clear hE
    go_wp2_with ((refine wpList_load_blk (by rfl) 25 _ rfl rfl h1 Tryd.underlying25 rfl (by kernel_rfl) ?_)); refine (cft _ (hmr _ HE.out)).mono ?_; rintro e w' ⟨rfl, hE⟩; (try replace hm := hm.ext hE); (try replace h1 := h1.ext hE); (try replace h2 := h2.ext hE); (try replace h3 := h3.ext hE); (try replace hN := hN.ext hE); (try replace HE := Lib.hid (HE.out.trans hE)); (try replace r0 := r0.ext hE); (try replace r1 := r1.ext hE); (try replace r2 := r2.ext hE); (try replace r3 := r3.ext hE); (try replace r4 := r4.ext hE); (try replace r5 := r5.ext hE); (try replace r6 := r6.ext hE); clear hE
    clear cft
    go_wp2_with (first | (go_at_call 20; (with_reducible refine (cia _).mono ?_); rintro e wq ⟨rfl, rfl⟩) | (refine wpList_load_blk (by rfl) 53 _ rfl rfl h2 Tryd.underlying53 rfl (by kernel_rfl) ?_))
    refine (caw _ (hTE _ HE.out)).mono ?_
    rintro e wz ⟨rfl, hE⟩
    replace HE := Lib.hid (HE.out.trans hE)
    clear hE
    go_wp2
    go_ret
    exact ⟨rfl, HE.out⟩
  rw [hva] at cia
  cases hpm : mayB p
  · rw [hpm] at cma
    clear hf hva hpm
    go_enter Tryd.func6, Tryd.ntmps6
    go_upto_region 1 with fail
    rw [HW1.out]
    clear HW1
    go_wp2_with (fail); refine (caw _ (hTE _ HE.out)).mono ?_; rintro e w' ⟨rfl, hE⟩; (try replace hm := hm.ext hE); (try replace h1 := h1.ext hE); (try replace h2 := h2.ext hE); (try replace h3 := h3.ext hE); (try replace hN := hN.ext hE); (try replace HE := Lib.hid (HE.out.trans hE)); (try replace r0 := r0.ext hE); (try replace r1 := r1.ext hE); (try replace r2 := r2.ext hE); (try replace r3 := r3.ext hE); (try replace r4 := r4.ext hE); (try replace r5 := r5.ext hE); (try replace r6 := r6.ext hE); clear hE
    go_wp2_with ((refine wpList_load_blk (by rfl) 25 _ rfl rfl h1 Tryd.underlying25 rfl (by kernel_rfl) ?_)); refine (cft _ (hmr _ HE.out)).mono ?_; rintro e w' ⟨rfl, hE⟩; (try replace hm := hm.ext hE); (try replace h1 := h1.ext hE); (try replace h2 := h2.ext hE); (try replace h3 := h3.ext hE); (try replace hN := hN.ext hE); (try replace HE := Lib.hid (HE.out.trans hE)); (try replace r0 := r0.ext hE); (try replace r1 := r1.ext hE); (try replace r2 := r2.ext hE); (try replace r3 := r3.ext hE); (try replace r4 := r4.ext hE); (try replace r5 := r5.ext hE); (try replace r6 := r6.ext hE); clear hE
    clear cft
    go_wp2_with (first | (go_at_call 20; (with_reducible refine (cia _).mono ?_); rintro e wq ⟨rfl, rfl⟩) | (refine wpList_load_blk (by rfl) 53 _ rfl rfl h2 Tryd.underlying53 rfl (by kernel_rfl) ?_))
    refine (cma _).mono ?_
    rintro e w1 ⟨rfl, hE⟩
    (try replace hm := hm.ext hE); (try replace h1 := h1.ext hE); (try replace h2 := h2.ext hE); (try replace h3 := h3.ext hE); (try replace hN := hN.ext hE); (try replace HE := Lib.hid (HE.out.trans hE)); (try replace r0 := r0.ext hE); (try replace r1 := r1.ext hE); (try replace r2 := r2.ext hE); (try replace r3 := r3.ext hE); (try replace r4 := r4.ext hE); (try replace r5 := r5.ext hE); (try replace r6 := r6.ext hE)
    clear hE cma
    go_wp2_with fail
    refine (caw _ (hTE _ HE.out)).mono ?_
    rintro e wz ⟨rfl, hE⟩
    replace HE := Lib.hid (HE.out.trans hE)
    clear hE
    go_wp2
    go_ret
    exact ⟨rfl, HE.out⟩
  rw [hpm] at cma
  obtain ⟨hrl, hso, hlen, n, rfl, hn2, hTr⟩ := fit19 hf hL
  obtain ⟨s, lv, j, hsp⟩ := spot_in hTr a
  have hMm : ∀ W : World, Ext w W → Mem W S B L d := fun W e => ⟨hm.ext e, hrl, hso, by omega⟩
  go_enter Tryd.func6, Tryd.ntmps6
  go_upto_region 1 with fail
  rw [HW1.out]
  clear HW1
  go_wp2_with (fail); refine (caw _ (hTE _ HE.out)).mono ?_; rintro e w' ⟨rfl, hE⟩; (try replace hm := hm.ext hE); (try replace h1 := h1.ext hE); (try replace h2 := h2.ext hE); (try replace h3 := h3.ext hE); (try replace hN := hN.ext hE); (try replace HE := Lib.hid (HE.out.trans hE)); (try replace r0 := r0.ext hE); (try replace r1 := r1.ext hE); (try replace r2 := r2.ext hE); (try replace r3 := r3.ext hE); (try replace r4 := r4.ext hE); (try replace r5 := r5.ext hE); (try replace r6 := r6.ext hE); clear hE
  go_wp2_with ((refine wpList_load_blk (by rfl) 25 _ rfl rfl h1 Tryd.underlying25 rfl (by kernel_rfl) ?_)); refine (cft _ (hmr _ HE.out)).mono ?_; rintro e w' ⟨rfl, hE⟩; (try replace hm := hm.ext hE); (try replace h1 := h1.ext hE); (try replace h2 := h2.ext hE); (try replace h3 := h3.ext hE); (try replace hN := hN.ext hE); (try replace HE := Lib.hid (HE.out.trans hE)); (try replace r0 := r0.ext hE); (try replace r1 := r1.ext hE); (try replace r2 := r2.ext hE); (try replace r3 := r3.ext hE); (try replace r4 := r4.ext hE); (try replace r5 := r5.ext hE); (try replace r6 := r6.ext hE); clear hE
  clear cft
  go_wp2_with (first | (go_at_call 20; (with_reducible refine (cia _).mono ?_); rintro e wq ⟨rfl, rfl⟩) | (refine wpList_load_blk (by rfl) 53 _ rfl rfl h2 Tryd.underlying53 rfl (by kernel_rfl) ?_))
  refine (cma _).mono ?_
  rintro e w1 ⟨rfl, hE⟩
  (try replace hm := hm.ext hE); (try replace h1 := h1.ext hE); (try replace h2 := h2.ext hE); (try replace h3 := h3.ext hE); (try replace hN := hN.ext hE); (try replace HE := Lib.hid (HE.out.trans hE)); (try replace r0 := r0.ext hE); (try replace r1 := r1.ext hE); (try replace r2 := r2.ext hE); (try replace r3 := r3.ext hE); (try replace r4 := r4.ext hE); (try replace r5 := r5.ext hE); (try replace r6 := r6.ext hE)
  clear hE cma
  go_wp2_with fail
  clear hf cia
  have l1 := h2.lt
  refine wp_region_float 11 25 (#[.int .u64 0, .slice none 0 0]) 7 [([(0, false), (1, false), (3, false), (4, false)], 2), ([], 5)] [(6, false)] [(8, true)] (by kernel_rfl) (by kernel_rfl) (fun _ _ => by simp [go_sem, execOp, Act.eval, nth]) (fun _ => rfl) rfl ?_; intro Bd W hE hs0 hwB; have hwE := HE.out.size; (try replace hm := hm.ext hE); (try replace h1 := h1.ext hE); (try replace h2 := h2.ext hE); (try replace h3 := h3.ext hE); (try replace hN := hN.ext hE); (try replace HE := Lib.hid (HE.out.trans hE)); (try replace r0 := r0.ext hE); (try replace r1 := r1.ext hE); (try replace r2 := r2.ext hE); (try replace r3 := r3.ext hE); (try replace r4 := r4.ext hE); (try replace r5 := r5.ext hE); (try replace r6 := r6.ext hE); clear hE; simp only [floatB, List.map, nth_z, nth_s]
  intro x W hE; (try simp only [Act.put, List.setIfInBounds_toArray, List.set_cons_zero, List.set_cons_succ]); (try replace hm := hm.ext hE); (try replace h1 := h1.ext hE); (try replace h2 := h2.ext hE); (try replace h3 := h3.ext hE); (try replace hN := hN.ext hE); (try replace HE := Lib.hid (HE.out.trans hE)); (try replace r0 := r0.ext hE); (try replace r1 := r1.ext hE); (try replace r2 := r2.ext hE); (try replace r3 := r3.ext hE); (try replace r4 := r4.ext hE); (try replace r5 := r5.ext hE); (try replace r6 := r6.ext hE); replace hs0 := Nat.le_trans hs0 hE.size; clear hE
  (repeat (first | (refine seq_skip (by rfl) ?_; intro K hK; simp only [Act.put, List.setIfInBounds_toArray, List.set_cons_zero, List.set_cons_succ]; refine hK _ ?_; clear hK K) | (refine seq_skipc (by rfl) ?_; intro K hK; simp only [Act.put, List.setIfInBounds_toArray, List.set_cons_zero, List.set_cons_succ]; refine hK _ ?_; clear hK K) | (refine seq_read (by rfl) (by rfl) ?_; intro K hK; go_big_quiet_op; first | go_big_quiet_on | (refine ⟨_, fun _ _ => rfl, ?_⟩; go_big_quiet_on))))
  refine seq_value (.int .u64 (S : Int)) (by rfl) (fun x hx => by have hq := (Below.cell hx (p := ⟨w.heap.size, 0, none⟩) (by simp; omega)).trans (h1.cell 0); simp [go_sem, execOp, Act.eval, hq]) ?_; intro K hK; simp only [Act.put, List.setIfInBounds_toArray, List.set_cons_zero, List.set_cons_succ]; refine hK _ ?_; clear hK K
  (repeat (first | (refine seq_skip (by rfl) ?_; intro K hK; simp only [Act.put, List.setIfInBounds_toArray, List.set_cons_zero, List.set_cons_succ]; refine hK _ ?_; clear hK K) | (refine seq_skipc (by rfl) ?_; intro K hK; simp only [Act.put, List.setIfInBounds_toArray, List.set_cons_zero, List.set_cons_succ]; refine hK _ ?_; clear hK K) | (refine seq_read (by rfl) (by rfl) ?_; intro K hK; go_big_quiet_op; first | go_big_quiet_on | (refine ⟨_, fun _ _ => rfl, ?_⟩; go_big_quiet_on))))
  refine seq_value (.slice B L.length d) (by rfl) (fun x hx => by have hq := (Below.cell hx (p := ⟨w.heap.size, 1, none⟩) (by simp; omega)).trans (h1.cell 1); simp [go_sem, execOp, Act.eval, hq]) ?_; intro K hK; simp only [Act.put, List.setIfInBounds_toArray, List.set_cons_zero, List.set_cons_succ]; refine hK _ ?_; clear hK K
  refine seq_done ⟨rfl, rfl, ?_⟩; intro x W hE; (try simp only [Act.put, List.setIfInBounds_toArray, List.set_cons_zero, List.set_cons_succ]); (try replace hm := hm.ext hE); (try replace h1 := h1.ext hE); (try replace h2 := h2.ext hE); (try replace h3 := h3.ext hE); (try replace hN := hN.ext hE); (try replace HE := Lib.hid (HE.out.trans hE)); (try replace r0 := r0.ext hE); (try replace r1 := r1.ext hE); (try replace r2 := r2.ext hE); (try replace r3 := r3.ext hE); (try replace r4 := r4.ext hE); (try replace r5 := r5.ext hE); (try replace r6 := r6.ext hE); replace hs0 := Nat.le_trans hs0 hE.size; clear hE
  refine seq_run (.slice (some ⟨W.heap.size, 0, none⟩) 0 0) (W.alloc (.cells #[] 80)) (by rfl) ?_ ((Below.refl _ _).alloc hs0 _) ?_; (simp [go_sem, execOp, Act.eval]); intro K hK; simp only [Act.put, List.setIfInBounds_toArray, List.set_cons_zero, List.set_cons_succ]; refine hK _ _ ?_; clear hK K
  have hown := own_mono (cp_empty W) hs0
  have hE := (Ext.refl W).alloc (.cells #[] 80)
  (try replace hm := hm.ext hE); (try replace h1 := h1.ext hE); (try replace h2 := h2.ext hE); (try replace h3 := h3.ext hE); (try replace hN := hN.ext hE); (try replace HE := Lib.hid (HE.out.trans hE)); (try replace r0 := r0.ext hE); (try replace r1 := r1.ext hE); (try replace r2 := r2.ext hE); (try replace r3 := r3.ext hE); (try replace r4 := r4.ext hE); (try replace r5 := r5.ext hE); (try replace r6 := r6.ext hE)
  replace hs0 := Nat.le_trans hs0 hE.size
  refine seq_done ⟨kept_ext hE, rfl, ?_⟩
  clear hE
  generalize W.alloc (.cells #[] 80) = We at *
  generalize W.heap.size = ge at *
  intro x W hE; (try simp only [Act.put, List.setIfInBounds_toArray, List.set_cons_zero, List.set_cons_succ]); replace hown := own_ext hown hE; (try replace hm := hm.ext hE); (try replace h1 := h1.ext hE); (try replace h2 := h2.ext hE); (try replace h3 := h3.ext hE); (try replace hN := hN.ext hE); (try replace HE := Lib.hid (HE.out.trans hE)); (try replace r0 := r0.ext hE); (try replace r1 := r1.ext hE); (try replace r2 := r2.ext hE); (try replace r3 := r3.ext hE); (try replace r4 := r4.ext hE); (try replace r5 := r5.ext hE); (try replace r6 := r6.ext hE); replace hs0 := Nat.le_trans hs0 hE.size; clear hE
  refine seq_done ⟨rfl, rfl, ?_⟩
  intro x W hE; (try simp only [Act.put, List.setIfInBounds_toArray, List.set_cons_zero, List.set_cons_succ]); replace hown := own_ext hown hE; (try replace hm := hm.ext hE); (try replace h1 := h1.ext hE); (try replace h2 := h2.ext hE); (try replace h3 := h3.ext hE); (try replace hN := hN.ext hE); (try replace HE := Lib.hid (HE.out.trans hE)); (try replace r0 := r0.ext hE); (try replace r1 := r1.ext hE); (try replace r2 := r2.ext hE); (try replace r3 := r3.ext hE); (try replace r4 := r4.ext hE); (try replace r5 := r5.ext hE); (try replace r6 := r6.ext hE); replace hs0 := Nat.le_trans hs0 hE.size; clear hE
  obtain ⟨A1, c1, W2, hrun, hr1, hbel, hkp⟩ := cp_any hown hs0 (hMm _ HE.out).row (by omega)
  refine seq_append _ (W2) _ _ rfl rfl rfl rfl (by rfl) hrun hbel ?_; intro K hK; simp only [Act.put, List.setIfInBounds_toArray, List.set_cons_zero, List.set_cons_succ]; refine hK _ _ ?_; clear hK K
  refine seq_done ⟨⟨fun g h => hkp g _ _ h (fun e => own_type (t := 25) hown h (by decide) (by rw [e]; rfl)), hbel.size⟩, rfl, ?_⟩
  replace h1 := h1.lower hbel (by omega)
  replace h2 := h2.lower hbel (by omega)
  replace hs0 := Nat.le_trans hs0 hbel.size
  replace HE : Hid (Ext w W2) := Lib.hid (Below.trans HE.out (Below.mono hbel (by omega)))
  clear hrun hbel hkp hown
  intro x W hE; (try simp only [Act.put, List.setIfInBounds_toArray, List.set_cons_zero, List.set_cons_succ]); replace hr1 := hr1.ext hE; (try replace hm := hm.ext hE); (try replace h1 := h1.ext hE); (try replace h2 := h2.ext hE); (try replace h3 := h3.ext hE); (try replace hN := hN.ext hE); (try replace HE := Lib.hid (HE.out.trans hE)); (try replace r0 := r0.ext hE); (try replace r1 := r1.ext hE); (try replace r2 := r2.ext hE); (try replace r3 := r3.ext hE); (try replace r4 := r4.ext hE); (try replace r5 := r5.ext hE); (try replace r6 := r6.ext hE); replace hs0 := Nat.le_trans hs0 hE.size; clear hE
  refine seq_build_as rfl (cp_build S A1 L.length c1) (by rfl) ?_; intro K hK; simp only [Act.put, List.setIfInBounds_toArray, List.set_cons_zero, List.set_cons_succ]; refine hK _ ?_; clear hK K
  refine seq_done ⟨rfl, rfl, ?_⟩; intro gq W hE hn hgB hEg; (try simp only [Act.put, List.setIfInBounds_toArray, List.set_cons_zero, List.set_cons_succ]); replace hr1 := hr1.ext hE; (try replace hm := hm.ext hE); (try replace h1 := h1.ext hE); (try replace h2 := h2.ext hE); (try replace h3 := h3.ext hE); (try replace hN := hN.ext hE); (try replace HE := Lib.hid (HE.out.trans hE)); (try replace r0 := r0.ext hE); (try replace r1 := r1.ext hE); (try replace r2 := r2.ext hE); (try replace r3 := r3.ext hE); (try replace r4 := r4.ext hE); (try replace r5 := r5.ext hE); (try replace r6 := r6.ext hE); replace hs0 := Nat.le_trans hs0 hE.size; clear hE
  have HR := Lib.hid (hr1.row (cp_out hr1 hn) (Nat.le_refl gq) (Nat.lt_succ_self gq) #[.int .u64 (S : Int), .slice A1 L.length c1])
  clear hr1
  refine seq_store_row rfl rfl rfl hn (by kernel_rfl) (by rfl) (by simp [Value.oneCell']) (by rfl) (below_row (Below.refl _ _) hgB _) ?_; intro K hK; simp only [Act.put, List.setIfInBounds_toArray, List.set_cons_zero, List.set_cons_succ]; refine hK _ _ ?_; clear hK K; (repeat (first | (refine seq_skip (by rfl) ?_; intro K hK; simp only [Act.put, List.setIfInBounds_toArray, List.set_cons_zero, List.set_cons_succ]; refine hK _ ?_; clear hK K) | (refine seq_skipc (by rfl) ?_; intro K hK; simp only [Act.put, List.setIfInBounds_toArray, List.set_cons_zero, List.set_cons_succ]; refine hK _ ?_; clear hK K) | (refine seq_read (by rfl) (by rfl) ?_; intro K hK; go_big_quiet_op; first | go_big_quiet_on | (refine ⟨_, fun _ _ => rfl, ?_⟩; go_big_quiet_on)))); refine seq_done ?_; (try replace hm := hm.apart (k := gq) (by omega) (#[.int .u64 (S : Int), .slice A1 L.length c1])); (try replace h1 := h1.apart (k := gq) (by omega) (#[.int .u64 (S : Int), .slice A1 L.length c1])); (try replace h2 := h2.apart (k := gq) (by omega) (#[.int .u64 (S : Int), .slice A1 L.length c1])); (try replace h3 := h3.apart (k := gq) (by omega) (#[.int .u64 (S : Int), .slice A1 L.length c1])); have h3 := hn.row (#[.int .u64 (S : Int), .slice A1 L.length c1]); replace HE := Lib.hid (Ext.row HE.out (show _ ≤ gq by omega) (#[.int .u64 (S : Int), .slice A1 L.length c1])); generalize W.setRow gq (#[.int .u64 (S : Int), .slice A1 L.length c1]) = WF at *; clear hn hEg
  have hN : Mem WF S A1 L c1 := ⟨HR.out, hrl, hso, by omega⟩
  clear HR hgB hs0 hwB hwE
  have crr := fun W (k : Mem W S A1 L c1) => rreach19_c (k := 0) a1 (by decide) n hn2 t W (by have := hTr.top; have := hso.le; omega) k
  rw [← spot_0] at crr
  have cwi := fun W (k : Mem W S A1 L c1) q => C.with_ W k (by omega) hn2 hTr hva a1 hsp hpm hp q
  have cpk := fun W (k : Mem W S A1 L c1) q => C.pagesK W k hn2 hTr q
  have crp := fun W (k : Mem W S B L d) => rpages19_c hso.le n hn2 t 0 W hTr (base_0 hn2).1 (base_0 hn2).2 k
  rw [← pgL_K] at crp
  have hfew := pgL_few hTr
  have csa := fun W (k : Mem W S A1 L c1) (m : Mem W S B L d) => same_xx k m
  rw [decide_eq_true rfl] at csa
  have crs := fun A c A' c' W (r1 : RowV KG W A (pgL L n t) c) (r2 : RowV KG W A' (pgL L n t) c') => rsame19_c A (pgL L n t) c A' (pgL L n t) c' W r1 r2
  rw [decide_eq_true rfl] at crs
  unfold MdT at cwi
  unfold MadeK at cpk crp
  generalize spotN L n t a = sA at *
  generalize pgL L n t = E at *
  generalize stS L s j (putN p) = K at *
  clear hTr hsp hva hpm
  go_wp2_with fail
  (try replace hm := Blk.drew hm); (try replace h1 := Blk.drew h1); (try replace h2 := Blk.drew h2); (try replace h3 := Blk.drew h3); replace HE := Lib.hid HE.out.drew
  replace hN := hN.ext (Ext.refl _).drew
  refine wp_region_seq [(0, false), (1, false), (2, false), (3, false), (4, false), (6, false), (7, false), (5, true), (8, true)] Ext (by kernel_rfl) (by kernel_rfl) Ext.refl (fun _ _ _ => Ext.trans) ?_; simp only [List.map, nth_z, nth_s]
  (try simp only [Act.put, List.setIfInBounds_toArray, List.set_cons_zero, List.set_cons_succ])
  refine seq_load rfl rfl (fun x hx => Blk.ext (h3) hx) rfl Tryd.underlying25 (by kernel_rfl) (by rfl) ?_; intro K hK; simp only [Act.put, List.setIfInBounds_toArray, List.set_cons_zero, List.set_cons_succ]; refine hK _ ?_; clear hK K
  refine seq_load rfl rfl (fun x hx => Blk.ext (h3) hx) rfl Tryd.underlying25 (by kernel_rfl) (by rfl) ?_; intro K hK; simp only [Act.put, List.setIfInBounds_toArray, List.set_cons_zero, List.set_cons_succ]; refine hK _ ?_; clear hK K
  (repeat (first | (refine seq_skip (by rfl) ?_; intro K hK; simp only [Act.put, List.setIfInBounds_toArray, List.set_cons_zero, List.set_cons_succ]; refine hK _ ?_; clear hK K) | (refine seq_skipc (by rfl) ?_; intro K hK; simp only [Act.put, List.setIfInBounds_toArray, List.set_cons_zero, List.set_cons_succ]; refine hK _ ?_; clear hK K) | (refine seq_read (by rfl) (by rfl) ?_; intro K hK; go_big_quiet_op; first | go_big_quiet_on | (refine ⟨_, fun _ _ => rfl, ?_⟩; go_big_quiet_on))))
  refine seq_load rfl rfl (fun x hx => Blk.ext (h2) hx) rfl Tryd.underlying53 (by kernel_rfl) (by rfl) ?_; intro K hK; simp only [Act.put, List.setIfInBounds_toArray, List.set_cons_zero, List.set_cons_succ]; refine hK _ ?_; clear hK K
  refine seq_call (crr _ hN) rfl Tryd.func32 (by kernel_rfl) (by kernel_rfl) (by rfl) (by rfl) ?_; intro K hK; rintro e w' ⟨rfl, hE⟩; refine ⟨_, rfl, hE, ?_⟩; simp only [Act.put, List.setIfInBounds_toArray, List.set_cons_zero, List.set_cons_succ]; refine hK _ _ ?_; clear hK K
  replace hN := hN.ext hE
  (try replace hm := hm.ext hE); (try replace h1 := h1.ext hE); (try replace h2 := h2.ext hE); (try replace h3 := h3.ext hE); (try replace hN := hN.ext hE); (try replace HE := Lib.hid (HE.out.trans hE)); (try replace r0 := r0.ext hE); (try replace r1 := r1.ext hE); (try replace r2 := r2.ext hE); (try replace r3 := r3.ext hE); (try replace r4 := r4.ext hE); (try replace r5 := r5.ext hE); (try replace r6 := r6.ext hE)
  clear hE crr
  refine seq_call (cwi _ hN (hTE _ HE.out)) rfl Tryd.func30 (by kernel_rfl) (by kernel_rfl) (by rfl) (by rfl) ?_; intro K hK; rintro e w' ⟨B9, d9, rfl, -, hE⟩; refine ⟨_, rfl, hE, ?_⟩; simp only [Act.put, List.setIfInBounds_toArray, List.set_cons_zero, List.set_cons_succ]; refine hK _ _ ?_; clear hK K
  replace hN := hN.ext hE
  (try replace hm := hm.ext hE); (try replace h1 := h1.ext hE); (try replace h2 := h2.ext hE); (try replace h3 := h3.ext hE); (try replace hN := hN.ext hE); (try replace HE := Lib.hid (HE.out.trans hE)); (try replace r0 := r0.ext hE); (try replace r1 := r1.ext hE); (try replace r2 := r2.ext hE); (try replace r3 := r3.ext hE); (try replace r4 := r4.ext hE); (try replace r5 := r5.ext hE); (try replace r6 := r6.ext hE)
  clear hE cwi
  refine seq_done ?_
  clear h2
  go_wp2_with (refine wpList_load_blk (by rfl) 25 _ rfl rfl h3 Tryd.underlying25 rfl (by kernel_rfl) ?_)
  refine (cpk _ hN (hTE _ HE.out)).mono ?_
  rintro e8 w9 ⟨v4, rfl, hown, hE9⟩
  have HE8 := Lib.hid hE9
  have h18 := h1
  have h38 := h3
  have hN8 := hN
  have HEw := HE
  clear hE9 h1 h3 hN HE
  have hl8 : ∀ W, Ext w' W → w'.heap.size ≤ W.heap.size := fun W h => h.size
  obtain ⟨A5, c5, rfl⟩ := own_slP hown
  generalize hw8 : w'.heap.size = g8 at *
  have Hw8 := Lib.hid hw8
  clear hw8
  obtain ⟨n5, hn5⟩ : ∃ n5, E.length = n5 := ⟨_, rfl⟩
  rw [hn5] at hown hfew ⊢
  have Hn5 := Lib.hid hn5
  clear hn5
  go_wp2_with fail
  go_loopw [13] (fun i wr => ∃ (k : Nat) (M : List Pg), k ≤ n5 ∧ i = .int .i64 k ∧ Hid (M.length = n5) ∧ wr.ownsRow g8 KG.e KG.sz (.slice A5 n5 c5) n5 (KG.flat M) ∧ Ext w' wr) (fun i _ => (n5 - intOf i).toNat)
  case atStart => exact ⟨0, E, by omega, rfl, Hn5, hown, HE8.out⟩
  case round =>
    clear hown HE8
    obtain ⟨k, M, hk, rfl, HM, hown, hE⟩ := hrel
    have HE8 := Lib.hid hE
    clear hE
    by_cases hlt : k < n5
    · have hkz : (k : Int) < (n5 : Int) := by omega
      obtain ⟨g, cap, cur, es, hv5, hbg, hbk, hfit, hes, hown2⟩ := own_put kg_ok (L := M) (i := k) (v := .slice A5 n5 c5) (by rw [HM.out]; exact hown) (by rw [HM.out]; exact hlt) zPg
      injection hv5 with a1 a2 a3
      subst a1
      replace hfit : k * 8 + (pgC zPg).size ≤ cur.size := hfit
      replace hes : putAt cur (k * 8) (pgC zPg).toList = es := hes
      replace hbk : Blk wr g 49 cur := hbk
      have hlen2 := Lib.hid (show (M.set k zPg).length = n5 by rw [List.length_set]; exact HM.out)
      rw [HM.out] at hown2
      have HE9 := Lib.hid (HE8.out.row (show w'.heap.size ≤ g by rw [Hw8.out]; exact hbg) es)
      clear hown HM a2 a3 hk
      go_wp2_with (first | (refine wpList_build_as (by rfl) rfl (zpg_build) ?_) | (refine wpList_store_part rfl 49 _ _ rfl rfl rfl hbk (hfit) (hes) (pg_info _) (pgC_one _) ?_))
      go_roundw
      case rel => exact ⟨k + 1, M.set k zPg, by omega, by go_num, hlen2, hown2, HE9.out⟩
      case measure => simp [intOf]; omega
    · obtain rfl : k = n5 := by omega
      have h1 := h18.ext HE8.out
      have h3 := h38.ext HE8.out
      have hN := hN8.ext HE8.out
      have HE := Lib.hid (HEw.out.trans HE8.out)
      clear hk hlt hown HM h18 h38 hN8 HEw HE8 hl8
      have x0 : _ = some (Value.int .u64 (S : Int)) := h3.cell 0
      have hmod : S / 4096 % 2 = 0 ∨ S / 4096 % 2 = 1 := by omega
      rcases hmod with hk0 | hk0
      · have hkz : (S : Int) / 4096 % 2 = 0 := by omega
        have cfr := fun W (k : Mem W S A1 L c1) q => C.fresh_no (P := 0) (M := 0) W k (by decide) (by decide) q
        unfold FrT at cfr
        clear hk0
        go_wp2_with (refine wpList_load_blk (by rfl) 25 _ rfl rfl h3 Tryd.underlying25 rfl (by kernel_rfl) ?_)
        refine (cfr _ hN (hTE _ HE.out)).mono ?_
        rintro e wa ⟨Ba, da, rfl, -, hE⟩
        replace hN := hN.ext hE
        (try replace hm := hm.ext hE); (try replace h1 := h1.ext hE); (try replace h2 := h2.ext hE); (try replace h3 := h3.ext hE); (try replace hN := hN.ext hE); (try replace HE := Lib.hid (HE.out.trans hE)); (try replace r0 := r0.ext hE); (try replace r1 := r1.ext hE); (try replace r2 := r2.ext hE); (try replace r3 := r3.ext hE); (try replace r4 := r4.ext hE); (try replace r5 := r5.ext hE); (try replace r6 := r6.ext hE)
        clear hE cfr x0 hkz
        go_wp2_with fail
        (try replace hm := Blk.drew hm); (try replace h1 := Blk.drew h1); (try replace h2 := Blk.drew h2); (try replace h3 := Blk.drew h3); replace HE := Lib.hid HE.out.drew
        replace hN := hN.ext (Ext.refl _).drew
        refine wp_region_seq [(0, false), (1, false), (2, true), (3, false), (4, false), (5, false), (6, false), (8, false), (9, false), (10, false), (7, true), (11, true), (12, true), (13, false), (14, false)] Ext (by kernel_rfl) (by kernel_rfl) Ext.refl (fun _ _ _ => Ext.trans) ?_; simp only [List.map, nth_z, nth_s]
        (try simp only [Act.put, List.setIfInBounds_toArray, List.set_cons_zero, List.set_cons_succ])
        refine seq_load rfl rfl (fun x hx => Blk.ext (h3) hx) rfl Tryd.underlying25 (by kernel_rfl) (by rfl) ?_; intro K hK; simp only [Act.put, List.setIfInBounds_toArray, List.set_cons_zero, List.set_cons_succ]; refine hK _ ?_; clear hK K
        refine seq_load rfl rfl (fun x hx => Blk.ext (h1) hx) rfl Tryd.underlying25 (by kernel_rfl) (by rfl) ?_; intro K hK; simp only [Act.put, List.setIfInBounds_toArray, List.set_cons_zero, List.set_cons_succ]; refine hK _ ?_; clear hK K
        refine seq_call (csa _ hN (hMm _ HE.out)) rfl Tryd.func14 (by kernel_rfl) (by kernel_rfl) (by rfl) (by rfl) ?_; intro K hK; rintro e w' ⟨rfl, hE⟩; refine ⟨_, rfl, hE, ?_⟩; simp only [Act.put, List.setIfInBounds_toArray, List.set_cons_zero, List.set_cons_succ]; refine hK _ _ ?_; clear hK K
        replace hN := hN.ext hE
        (try replace hm := hm.ext hE); (try replace h1 := h1.ext hE); (try replace h2 := h2.ext hE); (try replace h3 := h3.ext hE); (try replace hN := hN.ext hE); (try replace HE := Lib.hid (HE.out.trans hE)); (try replace r0 := r0.ext hE); (try replace r1 := r1.ext hE); (try replace r2 := r2.ext hE); (try replace r3 := r3.ext hE); (try replace r4 := r4.ext hE); (try replace r5 := r5.ext hE); (try replace r6 := r6.ext hE)
        clear hE csa
        (repeat (first | (refine seq_skip (by rfl) ?_; intro K hK; simp only [Act.put, List.setIfInBounds_toArray, List.set_cons_zero, List.set_cons_succ]; refine hK _ ?_; clear hK K) | (refine seq_skipc (by rfl) ?_; intro K hK; simp only [Act.put, List.setIfInBounds_toArray, List.set_cons_zero, List.set_cons_succ]; refine hK _ ?_; clear hK K) | (refine seq_read (by rfl) (by rfl) ?_; intro K hK; go_big_quiet_op; first | go_big_quiet_on | (refine ⟨_, fun _ _ => rfl, ?_⟩; go_big_quiet_on))))
        refine seq_load rfl rfl (fun x hx => Blk.ext (h3) hx) rfl Tryd.underlying25 (by kernel_rfl) (by rfl) ?_; intro K hK; simp only [Act.put, List.setIfInBounds_toArray, List.set_cons_zero, List.set_cons_succ]; refine hK _ ?_; clear hK K
        (repeat (first | (refine seq_skip (by rfl) ?_; intro K hK; simp only [Act.put, List.setIfInBounds_toArray, List.set_cons_zero, List.set_cons_succ]; refine hK _ ?_; clear hK K) | (refine seq_skipc (by rfl) ?_; intro K hK; simp only [Act.put, List.setIfInBounds_toArray, List.set_cons_zero, List.set_cons_succ]; refine hK _ ?_; clear hK K) | (refine seq_read (by rfl) (by rfl) ?_; intro K hK; go_big_quiet_op; first | go_big_quiet_on | (refine ⟨_, fun _ _ => rfl, ?_⟩; go_big_quiet_on))))
        refine seq_load rfl rfl (fun x hx => Blk.ext (h1) hx) rfl Tryd.underlying25 (by kernel_rfl) (by rfl) ?_; intro K hK; simp only [Act.put, List.setIfInBounds_toArray, List.set_cons_zero, List.set_cons_succ]; refine hK _ ?_; clear hK K
        (repeat (first | (refine seq_skip (by rfl) ?_; intro K hK; simp only [Act.put, List.setIfInBounds_toArray, List.set_cons_zero, List.set_cons_succ]; refine hK _ ?_; clear hK K) | (refine seq_skipc (by rfl) ?_; intro K hK; simp only [Act.put, List.setIfInBounds_toArray, List.set_cons_zero, List.set_cons_succ]; refine hK _ ?_; clear hK K) | (refine seq_read (by rfl) (by rfl) ?_; intro K hK; go_big_quiet_op; first | go_big_quiet_on | (refine ⟨_, fun _ _ => rfl, ?_⟩; go_big_quiet_on))))
        refine seq_call (cpk _ hN (hTE _ HE.out)) rfl Tryd.func21 (by kernel_rfl) (by kernel_rfl) (by rfl) (by rfl) ?_; intro K hK; rintro e w' ⟨v6, rfl, hown6, hE⟩; refine ⟨_, rfl, hE, ?_⟩; simp only [Act.put, List.setIfInBounds_toArray, List.set_cons_zero, List.set_cons_succ]; refine hK _ _ ?_; clear hK K
        obtain ⟨A6, c6, rfl, r6, -⟩ := own_rowv kg_ok hown6
        (try replace hm := hm.ext hE); (try replace h1 := h1.ext hE); (try replace h2 := h2.ext hE); (try replace h3 := h3.ext hE); (try replace hN := hN.ext hE); (try replace HE := Lib.hid (HE.out.trans hE)); (try replace r0 := r0.ext hE); (try replace r1 := r1.ext hE); (try replace r2 := r2.ext hE); (try replace r3 := r3.ext hE); (try replace r4 := r4.ext hE); (try replace r5 := r5.ext hE); (try replace r6 := r6.ext hE)
        clear hE cpk hN hown6
        refine seq_call (crp _ (hMm _ HE.out)) rfl Tryd.func34 (by kernel_rfl) (by kernel_rfl) (by rfl) (by rfl) ?_; intro K hK; rintro e w' ⟨v7, rfl, hown7, hE⟩; refine ⟨_, rfl, hE, ?_⟩; simp only [Act.put, List.setIfInBounds_toArray, List.set_cons_zero, List.set_cons_succ]; refine hK _ _ ?_; clear hK K
        obtain ⟨A7, c7, rfl, r7, -⟩ := own_rowv kg_ok hown7
        replace r6 := r6.ext hE
        (try replace hm := hm.ext hE); (try replace h1 := h1.ext hE); (try replace h2 := h2.ext hE); (try replace h3 := h3.ext hE); (try replace hN := hN.ext hE); (try replace HE := Lib.hid (HE.out.trans hE)); (try replace r0 := r0.ext hE); (try replace r1 := r1.ext hE); (try replace r2 := r2.ext hE); (try replace r3 := r3.ext hE); (try replace r4 := r4.ext hE); (try replace r5 := r5.ext hE); (try replace r6 := r6.ext hE)
        clear hE crp hown7
        refine seq_call (crs _ _ _ _ _ r6 r7) rfl Tryd.func33 (by kernel_rfl) (by kernel_rfl) (by rfl) (by rfl) ?_; intro K hK; rintro e w' ⟨rfl, hE⟩; refine ⟨_, rfl, hE, ?_⟩; simp only [Act.put, List.setIfInBounds_toArray, List.set_cons_zero, List.set_cons_succ]; refine hK _ _ ?_; clear hK K
        (try replace hm := hm.ext hE); (try replace h1 := h1.ext hE); (try replace h2 := h2.ext hE); (try replace h3 := h3.ext hE); (try replace hN := hN.ext hE); (try replace HE := Lib.hid (HE.out.trans hE)); (try replace r0 := r0.ext hE); (try replace r1 := r1.ext hE); (try replace r2 := r2.ext hE); (try replace r3 := r3.ext hE); (try replace r4 := r4.ext hE); (try replace r5 := r5.ext hE); (try replace r6 := r6.ext hE)
        clear hE crs
        (repeat (first | (refine seq_skip (by rfl) ?_; intro K hK; simp only [Act.put, List.setIfInBounds_toArray, List.set_cons_zero, List.set_cons_succ]; refine hK _ ?_; clear hK K) | (refine seq_skipc (by rfl) ?_; intro K hK; simp only [Act.put, List.setIfInBounds_toArray, List.set_cons_zero, List.set_cons_succ]; refine hK _ ?_; clear hK K) | (refine seq_read (by rfl) (by rfl) ?_; intro K hK; go_big_quiet_op; first | go_big_quiet_on | (refine ⟨_, fun _ _ => rfl, ?_⟩; go_big_quiet_on))))
        refine seq_done ?_
        go_wp2
        go_ret
        exact ⟨rfl, HE.out⟩
      · have hkz : (S : Int) / 4096 % 2 = 1 := by omega
        have cfr := fun W (k : Mem W S A1 L c1) q => C.fresh_yes (P := 0) (M := 1) (F := 1) W k (by decide) (by decide) (by decide) (by decide) (by omega) q
        unfold FrT at cfr
        clear hk0
        go_wp2_with (refine wpList_load_blk (by rfl) 25 _ rfl rfl h3 Tryd.underlying25 rfl (by kernel_rfl) ?_)
        refine (cfr _ hN (hTE _ HE.out)).mono ?_
        rintro e wa ⟨Ba, da, rfl, -, hE⟩
        replace hN := hN.ext hE
        (try replace hm := hm.ext hE); (try replace h1 := h1.ext hE); (try replace h2 := h2.ext hE); (try replace h3 := h3.ext hE); (try replace hN := hN.ext hE); (try replace HE := Lib.hid (HE.out.trans hE)); (try replace r0 := r0.ext hE); (try replace r1 := r1.ext hE); (try replace r2 := r2.ext hE); (try replace r3 := r3.ext hE); (try replace r4 := r4.ext hE); (try replace r5 := r5.ext hE); (try replace r6 := r6.ext hE)
        clear hE cfr x0 hkz
        go_wp2_with fail
        (try replace hm := Blk.drew hm); (try replace h1 := Blk.drew h1); (try replace h2 := Blk.drew h2); (try replace h3 := Blk.drew h3); replace HE := Lib.hid HE.out.drew
        replace hN := hN.ext (Ext.refl _).drew
        refine wp_region_seq [(0, false), (1, false), (2, true), (3, false), (4, false), (5, false), (6, false), (8, false), (9, false), (10, false), (7, true), (11, true), (12, true), (13, false), (14, false)] Ext (by kernel_rfl) (by kernel_rfl) Ext.refl (fun _ _ _ => Ext.trans) ?_; simp only [List.map, nth_z, nth_s]
        (try simp only [Act.put, List.setIfInBounds_toArray, List.set_cons_zero, List.set_cons_succ])
        refine seq_load rfl rfl (fun x hx => Blk.ext (h3) hx) rfl Tryd.underlying25 (by kernel_rfl) (by rfl) ?_; intro K hK; simp only [Act.put, List.setIfInBounds_toArray, List.set_cons_zero, List.set_cons_succ]; refine hK _ ?_; clear hK K
        refine seq_load rfl rfl (fun x hx => Blk.ext (h1) hx) rfl Tryd.underlying25 (by kernel_rfl) (by rfl) ?_; intro K hK; simp only [Act.put, List.setIfInBounds_toArray, List.set_cons_zero, List.set_cons_succ]; refine hK _ ?_; clear hK K
        refine seq_call (csa _ hN (hMm _ HE.out)) rfl Tryd.func14 (by kernel_rfl) (by kernel_rfl) (by rfl) (by rfl) ?_; intro K hK; rintro e w' ⟨rfl, hE⟩; refine ⟨_, rfl, hE, ?_⟩; simp only [Act.put, List.setIfInBounds_toArray, List.set_cons_zero, List.set_cons_succ]; refine hK _ _ ?_; clear hK K
        replace hN := hN.ext hE
        (try replace hm := hm.ext hE); (try replace h1 := h1.ext hE); (try replace h2 := h2.ext hE); (try replace h3 := h3.ext hE); (try replace hN := hN.ext hE); (try replace HE := Lib.hid (HE.out.trans hE)); (try replace r0 := r0.ext hE); (try replace r1 := r1.ext hE); (try replace r2 := r2.ext hE); (try replace r3 := r3.ext hE); (try replace r4 := r4.ext hE); (try replace r5 := r5.ext hE); (try replace r6 := r6.ext hE)
        clear hE csa
        (repeat (first | (refine seq_skip (by rfl) ?_; intro K hK; simp only [Act.put, List.setIfInBounds_toArray, List.set_cons_zero, List.set_cons_succ]; refine hK _ ?_; clear hK K) | (refine seq_skipc (by rfl) ?_; intro K hK; simp only [Act.put, List.setIfInBounds_toArray, List.set_cons_zero, List.set_cons_succ]; refine hK _ ?_; clear hK K) | (refine seq_read (by rfl) (by rfl) ?_; intro K hK; go_big_quiet_op; first | go_big_quiet_on | (refine ⟨_, fun _ _ => rfl, ?_⟩; go_big_quiet_on))))
        refine seq_load rfl rfl (fun x hx => Blk.ext (h3) hx) rfl Tryd.underlying25 (by kernel_rfl) (by rfl) ?_; intro K hK; simp only [Act.put, List.setIfInBounds_toArray, List.set_cons_zero, List.set_cons_succ]; refine hK _ ?_; clear hK K
        (repeat (first | (refine seq_skip (by rfl) ?_; intro K hK; simp only [Act.put, List.setIfInBounds_toArray, List.set_cons_zero, List.set_cons_succ]; refine hK _ ?_; clear hK K) | (refine seq_skipc (by rfl) ?_; intro K hK; simp only [Act.put, List.setIfInBounds_toArray, List.set_cons_zero, List.set_cons_succ]; refine hK _ ?_; clear hK K) | (refine seq_read (by rfl) (by rfl) ?_; intro K hK; go_big_quiet_op; first | go_big_quiet_on | (refine ⟨_, fun _ _ => rfl, ?_⟩; go_big_quiet_on))))
        refine seq_load rfl rfl (fun x hx => Blk.ext (h1) hx) rfl Tryd.underlying25 (by kernel_rfl) (by rfl) ?_; intro K hK; simp only [Act.put, List.setIfInBounds_toArray, List.set_cons_zero, List.set_cons_succ]; refine hK _ ?_; clear hK K
        (repeat (first | (refine seq_skip (by rfl) ?_; intro K hK; simp only [Act.put, List.setIfInBounds_toArray, List.set_cons_zero, List.set_cons_succ]; refine hK _ ?_; clear hK K) | (refine seq_skipc (by rfl) ?_; intro K hK; simp only [Act.put, List.setIfInBounds_toArray, List.set_cons_zero, List.set_cons_succ]; refine hK _ ?_; clear hK K) | (refine seq_read (by rfl) (by rfl) ?_; intro K hK; go_big_quiet_op; first | go_big_quiet_on | (refine ⟨_, fun _ _ => rfl, ?_⟩; go_big_quiet_on))))
        refine seq_call (cpk _ hN (hTE _ HE.out)) rfl Tryd.func21 (by kernel_rfl) (by kernel_rfl) (by rfl) (by rfl) ?_; intro K hK; rintro e w' ⟨v6, rfl, hown6, hE⟩; refine ⟨_, rfl, hE, ?_⟩; simp only [Act.put, List.setIfInBounds_toArray, List.set_cons_zero, List.set_cons_succ]; refine hK _ _ ?_; clear hK K
        obtain ⟨A6, c6, rfl, r6, -⟩ := own_rowv kg_ok hown6
        (try replace hm := hm.ext hE); (try replace h1 := h1.ext hE); (try replace h2 := h2.ext hE); (try replace h3 := h3.ext hE); (try replace hN := hN.ext hE); (try replace HE := Lib.hid (HE.out.trans hE)); (try replace r0 := r0.ext hE); (try replace r1 := r1.ext hE); (try replace r2 := r2.ext hE); (try replace r3 := r3.ext hE); (try replace r4 := r4.ext hE); (try replace r5 := r5.ext hE); (try replace r6 := r6.ext hE)
        clear hE cpk hN hown6
        refine seq_call (crp _ (hMm _ HE.out)) rfl Tryd.func34 (by kernel_rfl) (by kernel_rfl) (by rfl) (by rfl) ?_; intro K hK; rintro e w' ⟨v7, rfl, hown7, hE⟩; refine ⟨_, rfl, hE, ?_⟩; simp only [Act.put, List.setIfInBounds_toArray, List.set_cons_zero, List.set_cons_succ]; refine hK _ _ ?_; clear hK K
        obtain ⟨A7, c7, rfl, r7, -⟩ := own_rowv kg_ok hown7
        replace r6 := r6.ext hE
        (try replace hm := hm.ext hE); (try replace h1 := h1.ext hE); (try replace h2 := h2.ext hE); (try replace h3 := h3.ext hE); (try replace hN := hN.ext hE); (try replace HE := Lib.hid (HE.out.trans hE)); (try replace r0 := r0.ext hE); (try replace r1 := r1.ext hE); (try replace r2 := r2.ext hE); (try replace r3 := r3.ext hE); (try replace r4 := r4.ext hE); (try replace r5 := r5.ext hE); (try replace r6 := r6.ext hE)
        clear hE crp hown7
        refine seq_call (crs _ _ _ _ _ r6 r7) rfl Tryd.func33 (by kernel_rfl) (by kernel_rfl) (by rfl) (by rfl) ?_; intro K hK; rintro e w' ⟨rfl, hE⟩; refine ⟨_, rfl, hE, ?_⟩; simp only [Act.put, List.setIfInBounds_toArray, List.set_cons_zero, List.set_cons_succ]; refine hK _ _ ?_; clear hK K
        (try replace hm := hm.ext hE); (try replace h1 := h1.ext hE); (try replace h2 := h2.ext hE); (try replace h3 := h3.ext hE); (try replace hN := hN.ext hE); (try replace HE := Lib.hid (HE.out.trans hE)); (try replace r0 := r0.ext hE); (try replace r1 := r1.ext hE); (try replace r2 := r2.ext hE); (try replace r3 := r3.ext hE); (try replace r4 := r4.ext hE); (try replace r5 := r5.ext hE); (try replace r6 := r6.ext hE)
        clear hE crs
        (repeat (first | (refine seq_skip (by rfl) ?_; intro K hK; simp only [Act.put, List.setIfInBounds_toArray, List.set_cons_zero, List.set_cons_succ]; refine hK _ ?_; clear hK K) | (refine seq_skipc (by rfl) ?_; intro K hK; simp only [Act.put, List.setIfInBounds_toArray, List.set_cons_zero, List.set_cons_succ]; refine hK _ ?_; clear hK K) | (refine seq_read (by rfl) (by rfl) ?_; intro K hK; go_big_quiet_op; first | go_big_quiet_on | (refine ⟨_, fun _ _ => rfl, ?_⟩; go_big_quiet_on))))
        refine seq_done ?_
        go_wp2
        go_ret
        exact ⟨rfl, HE.out⟩
end Go.Proofs.YtcllbidhjggjiaaDoor
