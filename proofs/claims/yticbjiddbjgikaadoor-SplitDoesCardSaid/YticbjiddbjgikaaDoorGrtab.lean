/- The document's answers for layer 19 (atlasref19): At, Links, Right. -/
import Derived.Test.YticbjiddbjgikaaDoorMtabc
import Derived.Test.YticbjiddbjgikaaDoorGrsix
import Derived.Test.YticbjiddbjgikaaDoorMem
import Derived.Test.YticbjiddbjgikaaDoorGwid
import Derived.Test.YticbjiddbjgikaaDoorGmem
import Derived.Deep.Cut
import Derived.Test.YticbjiddbjgikaaDoorGrme
namespace Go.Proofs.YticbjiddbjgikaaDoor
open Go.ChangeShapes Go.WideShapes Go.ChangeAt Go.RowKit
set_option linter.unusedVariables false
set_option linter.unusedSimpArgs false
set_option maxRecDepth 10000

theorem Blk.mem19 {w : World} {g : Nat} {t : TypeId} {cs : Array Value} (h : Blk w g t cs) : w.heap[g]? = some (.cells cs t (0, 0)) := h
attribute [local irreducible] World.setRow World.alloc Blk
set_option maxHeartbeats 1000000 in
theorem rat19_c {w : World} {S : Nat} {B : Option Addr} {L : List (Nat × Nat)} {d : Nat} (hM : Mem w S B L d) {t i : Nat} (ht : t < 17592186044416) (hi : i < 512) :
    Calls Tryd.prog 29 #[.agg #[.int .u64 (S : Int), .slice B L.length d], .int .u64 (t : Int), .int .i64 (i : Int)] w fun e w' => e = .returned (.agg (ptC (tE L t i))) ∧ Ext w w' := by
  have h1 : Blk ((w.alloc (.cells #[.int .u64 (S : Int), .slice B L.length d] 25)).alloc (.cells #[.bool false, .bool false, .bool false, .bool false, .bool false, .bool false, .bool false, .bool false, .int .u64 0, .int .u64 0, .int .u64 0] 32)) w.heap.size 25 #[.int .u64 (S : Int), .slice B L.length d] := (Blk.new w _ _).alloc _
  have k2 : Blk ((w.alloc (.cells #[.int .u64 (S : Int), .slice B L.length d] 25)).alloc (.cells #[.bool false, .bool false, .bool false, .bool false, .bool false, .bool false, .bool false, .bool false, .int .u64 0, .int .u64 0, .int .u64 0] 32)) (w.heap.size + 1) 32 #[.bool false, .bool false, .bool false, .bool false, .bool false, .bool false, .bool false, .bool false, .int .u64 0, .int .u64 0, .int .u64 0] := blk_at (by simp)
  have HE := Lib.hid (((Ext.refl w).alloc (.cells #[.int .u64 (S : Int), .slice B L.length d] 25)).alloc (.cells #[.bool false, .bool false, .bool false, .bool false, .bool false, .bool false, .bool false, .bool false, .int .u64 0, .int .u64 0, .int .u64 0] 32))
  have cw := fun W (m : Mem W S B L d) => rword_x m (a := 4096 * t + 8 * i) (by omega)
  have cg := fun W => rget_pte (wordL L (512 * t + i)) (wordL_lt hM.rl _) W
  rw [show (4096 * t + 8 * i) / 8 = 512 * t + i by omega] at cw
  have e1 : tE L t i = getP (wordL L (512 * t + i)) := rfl
  rw [← e1] at cg
  clear e1
  generalize tE L t i = p at *
  have hs1 : IntKind.u64.wrap (4096 * (t : Int)) = 4096 * (t : Int) := by rw [IntKind.wrap_u64]; omega
  have hs2 : IntKind.u64.wrap (8 * (i : Int)) = 8 * (i : Int) := by rw [IntKind.wrap_u64]; omega
  have hs3 : IntKind.u64.wrap (4096 * (t : Int) + 8 * (i : Int)) = ((4096 * t + 8 * i : Nat) : Int) := by rw [IntKind.wrap_u64]; omega
  generalize wordL L (512 * t + i) = v at *
  generalize 4096 * t + 8 * i = a at *
  go_enter Tryd.func29, Tryd.ntmps29
  go_wp2_with (refine wpList_load_blk (by rfl) 25 _ rfl rfl h1 Tryd.underlying25 rfl (by kernel_rfl) ?_)
  refine (cw _ (hM.ext HE.out)).mono ?_
  rintro e w1 ⟨rfl, hE⟩
  (try replace h1 := h1.ext hE); (try replace k2 := k2.ext hE); (try replace hM := hM.ext hE); (try replace HE := Lib.hid (HE.out.trans hE)); (try replace r0 := r0.ext hE); (try replace r1 := r1.ext hE); (try replace r2 := r2.ext hE); (try replace r3 := r3.ext hE); (try replace r4 := r4.ext hE); (try replace r5 := r5.ext hE); (try replace r6 := r6.ext hE)
  clear hE cw hs1 hs2 hs3
  go_wp2_with fail
  refine (cg _).mono ?_
  rintro e w2 ⟨rfl, hE⟩
  (try replace h1 := h1.ext hE); (try replace k2 := k2.ext hE); (try replace hM := hM.ext hE); (try replace HE := Lib.hid (HE.out.trans hE)); (try replace r0 := r0.ext hE); (try replace r1 := r1.ext hE); (try replace r2 := r2.ext hE); (try replace r3 := r3.ext hE); (try replace r4 := r4.ext hE); (try replace r5 := r5.ext hE); (try replace r6 := r6.ext hE)
  clear hE cg
  go_wp2_with (refine wpList_store_blk rfl 32 _ _ rfl rfl rfl k2 (pt_info _) (by simp [ptC_size]) (ptC_one _) ?_)
  (try simp only [Exit.inBlock, Exit.then]); (try rw [Exit.noGoto_ret]); refine bodyPost_ret (results_cell_row rfl _ _ _ _ _ _ _ rfl ((k2.row _).mem19) Tryd.underlying32 rfl (pt_info _)) rfl ?_
  exact ⟨rfl, HE.out.row (by omega) _⟩
set_option maxHeartbeats 1000000 in
theorem rlinks19_c (p : Pt) (n : Nat) (hn : n ≤ 2) (w : World) :
    Calls Tryd.prog 33 #[.agg (ptC p), .int .i64 (n : Int)] w fun e w' => e = .returned (.bool (linkB p && !badB p (n : Int))) ∧ Ext w w' := by
  have h1 := Blk.new w 32 (ptC p)
  have HE := Lib.hid ((Ext.refl w).alloc (.cells (ptC p) 32))
  have cl := fun W => rlink_c p W
  have cb := fun W => rbad_c p (n : Int) (by omega) (by omega) W
  go_enter Tryd.func33, Tryd.ntmps33
  cases hl : linkB p
  · rw [hl] at cl
    clear cb hl
    go_wp2_with (refine wpList_load_blk (by rfl) 32 _ rfl rfl h1 Tryd.underlying32 rfl (by kernel_rfl) ?_)
    refine (cl _).mono ?_
    rintro e w1 ⟨rfl, hE⟩
    replace HE := Lib.hid (HE.out.trans hE)
    clear hE cl h1
    go_wp2
    go_ret
    exact ⟨rfl, HE.out⟩
  · rw [hl] at cl
    generalize badB p (n : Int) = b at *
    clear hl
    go_wp2_with (refine wpList_load_blk (by rfl) 32 _ rfl rfl h1 Tryd.underlying32 rfl (by kernel_rfl) ?_)
    refine (cl _).mono ?_
    rintro e w1 ⟨rfl, hE⟩
    (try replace h1 := h1.ext hE); (try replace HE := Lib.hid (HE.out.trans hE)); (try replace r0 := r0.ext hE); (try replace r1 := r1.ext hE); (try replace r2 := r2.ext hE); (try replace r3 := r3.ext hE); (try replace r4 := r4.ext hE); (try replace r5 := r5.ext hE); (try replace r6 := r6.ext hE)
    clear hE cl
    go_wp2_with (refine wpList_load_blk (by rfl) 32 _ rfl rfl h1 Tryd.underlying32 rfl (by kernel_rfl) ?_)
    refine (cb _).mono ?_
    rintro e w2 ⟨rfl, hE⟩
    replace HE := Lib.hid (HE.out.trans hE)
    clear hE cb h1
    go_wp2
    go_ret
    exact ⟨rfl, HE.out⟩
/-- what Right answers -/
def RtT (S : Nat) (L : List (Nat × Nat)) (n t : Nat) (M : List Nat) (w : World) (r : Ending) (w' : World) : Prop :=
  ∃ A c M', r = .returned (.tuple #[.slice A M'.length c, .bool (rightM S L n t M)]) ∧ (rightM S L n t M = true → M' = M ++ frs L n t) ∧ RowV KU w' A M' c ∧ Ext w w'
theorem rt_no {S : Nat} {L : List (Nat × Nat)} {n t : Nat} {M M1 : List Nat} {w w' : World} {A : Option Addr} {c : Nat} (hq : rightM S L n t M = false) (hr : RowV KU w' A M1 c) (hE : Ext w w') : RtT S L n t M w (.returned (.tuple #[.slice A M1.length c, .bool false])) w' :=
  ⟨A, c, M1, by rw [hq], fun h => by (rw [hq] at h; cases h), hr, hE⟩
theorem rt_yes {S : Nat} {L : List (Nat × Nat)} {n t : Nat} {M M1 : List Nat} {w w' : World} {A : Option Addr} {c : Nat} (hq : rightM S L n t M = true) (e : M1 = M ++ frs L n t) (hr : RowV KU w' A M1 c) (hE : Ext w w') : RtT S L n t M w (.returned (.tuple #[.slice A M1.length c, .bool true])) w' :=
  ⟨A, c, M1, by rw [hq], fun _ => e, hr, hE⟩
theorem getD_at {M : List Nat} {i : Nat} (h : i < M.length) : M.getD i 0 = M[i] := by rw [List.getD, List.getElem?_eq_getElem h]; rfl
theorem okR_len {S : Nat} {M F : List Nat} (h : okR S M F) : (M ++ F).length ≤ 64 := h.2.2
theorem okR_nd {S : Nat} {M F : List Nat} (h : okR S M F) : (M ++ F).Nodup := h.1
def RtC (S : Nat) (B : Option Addr) (L : List (Nat × Nat)) (d n : Nat) : Prop := ∀ (t : Nat) (A : Option Addr) (M : List Nat) (c : Nat) (w : World), t < 18446744073709551616 → M.Nodup → M.length ≤ 64 → Mem w S B L d → RowV KU w A M c →
    Calls Tryd.prog 52 #[.agg #[.int .u64 (S : Int), .slice B L.length d], .int .u64 (t : Int), .int .i64 (n : Int), .slice A M.length c] w (RtT S L n t M w)
theorem ptC_pp (p : Pt) : (ptC p)[9]? = some (.int .u64 (p.pp : Int)) := by rw [ptC_eq]; rfl
theorem tE_pp (L : List (Nat × Nat)) (t i : Nat) : (tE L t i).pp < 17592186044416 := by unfold tE getP; exact Nat.mod_lt _ (by decide)
set_option maxRecDepth 100000 in
set_option maxHeartbeats 8000000 in
theorem rright19_step {S : Nat} {B : Option Addr} {L : List (Nat × Nat)} {d : Nat} (hS : S ≤ 1099511627776) (n : Nat) (hn : n ≤ 2) (ih : ∀ n', n = n' + 1 → RtC S B L d n') : RtC S B L d n := by
    intro t A M c w ht hnd hlen hM hr
    have h1 := Blk.new w 25 #[.int .u64 (S : Int), .slice B L.length d]
    have HE := Lib.hid ((Ext.refl w).alloc (.cells #[.int .u64 (S : Int), .slice B L.length d] 25))
    have hMm : ∀ W : World, Ext w W → Mem W S B L d := fun W e => hM.ext e
    have hrw : ∀ W : World, Ext w W → RowV KU W A M c := fun W e => hr.ext e
    have x0 : _ = some (Value.int .u64 (S : Int)) := h1.cell 0
    have dn : decide (2 < (n : Int)) = false := by simp; omega
    have d0 : decide ((n : Int) < 0) = false := by simp
    by_cases c1 : t < S / 4096
    case neg =>
      have hq := Lib.hid (rightM_top (S := S) (L := L) (n := n) (t := t) (M := M) fun h => c1 h.1)
      have dt : decide ((S : Int) / 4096 ≤ (t : Int)) = true := by simp; omega
      clear c1
      go_enter Tryd.func52, Tryd.ntmps52
      go_wp2
      go_ret2
      exact rt_no hq.out (hrw _ HE.out) HE.out
    have dt : decide ((S : Int) / 4096 ≤ (t : Int)) = false := by simp; omega
    by_cases c2 : M.length < 64
    case neg =>
      have hq := Lib.hid (rightM_top (S := S) (L := L) (n := n) (t := t) (M := M) fun h => c2 h.2.1)
      have dl : decide (64 ≤ (M.length : Int)) = true := by simp; omega
      clear c2
      go_enter Tryd.func52, Tryd.ntmps52
      go_wp2
      go_ret2
      exact rt_no hq.out (hrw _ HE.out) HE.out
    have dl : decide (64 ≤ (M.length : Int)) = false := by simp; omega
    have htp : t < 17592186044416 := by omega
    go_enter Tryd.func52, Tryd.ntmps52
    go_wp2_with fail
    clear x0 dt dl d0 dn
    generalize w.alloc (.cells #[.int .u64 (S : Int), .slice B L.length d] 25) = W1 at *
    go_loop [10] (fun i => ∃ j : Nat, j ≤ M.length ∧ i = .int .i64 j ∧ Hid (∀ i, i < j → M.getD i 0 ≠ t)) (fun i => (M.length - intOf i).toNat)
    case atStart => exact ⟨0, by omega, rfl, Lib.hid fun i hi => by omega⟩
    case round =>
      obtain ⟨j, hj, rfl, hq⟩ := hrel
      by_cases hlt : j < M.length
      · obtain ⟨bb, off, rfl, -, -⟩ := hr.1 (by omega)
        obtain ⟨hc, -⟩ := ku_at (hrw _ HE.out) hlt
        by_cases he : M.getD j 0 = t
        · have hm : t ∈ M := by
            rw [← he, getD_at hlt]; exact List.getElem_mem hlt
          have hz := Lib.hid (rightM_top (S := S) (L := L) (n := n) (t := t) (M := M) fun h => h.2.2 hm)
          have de : (((M.getD j 0 : Nat) : Int) == (t : Int)) = true := by rw [he]; simp
          clear he hm
          generalize M.getD j 0 = mj at *
          go_wp2
          go_ret2
          exact rt_no hz.out (hrw _ HE.out) HE.out
        · have de : (((M.getD j 0 : Nat) : Int) == (t : Int)) = false := by rw [beq_eq_false_iff_ne]; omega
          have hq1 : Hid (∀ i, i < j + 1 → M.getD i 0 ≠ t) := Lib.hid fun i hi => by
            by_cases e : i = j
            · subst e; exact he
            · exact hq.out i (by omega)
          clear he
          generalize M.getD j 0 = mj at *
          go_wp2
          go_round
          case rel => exact ⟨j + 1, by omega, by go_num, hq1⟩
          case measure => simp [intOf]; omega
      · obtain rfl : j = M.length := by omega
        have hnm : t ∉ M := fun hm => by
          obtain ⟨i, hi, e⟩ := List.getElem_of_mem hm
          exact hq.out i hi (by rw [getD_at hi]; exact e)
        have hok := Lib.hid (okR_top (S := S) hnd c1 c2 hnm)
        clear hq hnm hj hlt
        have hcq := copy_row ku_ok W1 (hrw _ HE.out) (by show M.length * 8 ≤ _; omega) (by unfold maxLen; omega)
        have hlt1 := h1.lt
        go_wp2_with (first | (at_builtin; refine wpList_append_run' _ rfl _ _ _ rfl _ _ rfl rfl _ (run_append_u64 _ W1.heap.size _ _ _ (by assumption) _ (by omega) (by omega) _) ?_; rintro v4 w4 ⟨hown4, hB4, -⟩; clear hown3) | (at_builtin; refine wpList_append_run' _ rfl _ _ _ rfl _ _ rfl rfl _ (hcq _) ?_; rintro v3 w3 ⟨hown, hE⟩; have hown3 : w3.ownsRow W1.heap.size 22 1 v3 M.length (KU.flat M) := hown; have hs3 := hE.size; replace h1 := h1.ext hE; replace HE := Lib.hid (HE.out.trans hE); clear hE hown hcq))
        replace h1 := h1.below hB4 hlt1
        replace HE := Lib.hid (show Ext w w4 from Below.trans HE.out (Below.mono hB4 (Nat.le_of_lt hlt1)))
        rw [ku_flat_one] at hown4
        have hown5 : w4.ownsRow W1.heap.size KU.e KU.sz v4 (M ++ [t]).length (KU.flat (M ++ [t])) := by rw [List.length_append]; exact hown4
        rw [← frI_0 L n t] at hown5 hok
        obtain ⟨M4, hM4⟩ : ∃ M4, M4 = M ++ frI L n t 0 := ⟨_, rfl⟩
        rw [← hM4] at hown5
        have HM4 := Lib.hid hM4
        clear hM4
        obtain ⟨A4, c4, rfl, r4, -⟩ := own_rowv ku_ok hown5
        clear hown4 hown5 hB4 hlt1 hs3
        go_loopw [3, 11] (fun me i wr => ∃ (k : Nat) (A1 : Option Addr) (c1 : Nat) (M1 : List Nat), k ≤ 512 ∧ i = .int .i64 k ∧ me = .slice A1 M1.length c1 ∧ Hid (M1 = M ++ frI L n t k) ∧ Hid (okR S M (frI L n t k)) ∧ RowV KU wr A1 M1 c1 ∧ Blk wr w.heap.size 25 #[.int .u64 (S : Int), .slice B L.length d] ∧ Ext w wr) (fun _ i _ => (512 - intOf i).toNat)
        case atStart => exact ⟨0, A4, c4, M4, by omega, rfl, rfl, HM4, hok, r4, h1, HE.out⟩
        case round =>
          clear hok r4 h1 HE HM4
          obtain ⟨k, A1, c1', M1, hk, rfl, rfl, hM1, hok, r1, h1, hE⟩ := hrel
          have HE := Lib.hid hE
          clear hE
          by_cases hlt : k < 512
          case neg =>
            obtain rfl : k = 512 := by omega
            have hq := Lib.hid (right_done hok.out)
            have e : Hid (M1 = M ++ frs L n t) := Lib.hid (by rw [frs_frI]; exact hM1.out)
            clear h1 hlt hk
            go_wp2
            go_ret2
            exact rt_yes hq.out e.out r1 HE.out
          have dk : decide ((k : Int) < 512) = true := by simp; omega
          have cat := fun W (m : Mem W S B L d) => rat19_c m (t := t) (i := k) htp hlt
          have clk := fun W => rlinks19_c (tE L t k) n hn W
          have hpp := tE_pp L t k
          have hx9 := ptC_pp (tE L t k)
          have hgo : goB L t k n = (linkB (tE L t k) && !badB (tE L t k) (n : Int)) := rfl
          rw [← hgo] at clk
          clear hgo
          go_wp2_with (refine wpList_load_blk (by rfl) 25 _ rfl rfl h1 Tryd.underlying25 rfl (by kernel_rfl) ?_)
          refine (cat _ (hMm _ HE.out)).mono ?_
          rintro e w5 ⟨rfl, hE⟩
          (try replace hc := hc.ext hE); (try replace hz := hz.ext hE); (try replace hm := hm.ext hE); (try replace h1 := h1.ext hE); (try replace h4 := h4.ext hE); (try replace hM := hM.ext hE); (try replace HE := Lib.hid (HE.out.trans hE)); (try replace r0 := r0.ext hE); (try replace r1 := r1.ext hE); (try replace r2 := r2.ext hE); (try replace r3 := r3.ext hE); (try replace r4 := r4.ext hE); (try replace r5 := r5.ext hE); (try replace r6 := r6.ext hE)
          clear hE cat
          have zz1 : Blk (w5.alloc (.cells #[.bool false, .bool false, .bool false, .bool false, .bool false, .bool false, .bool false, .bool false, .int .u64 0, .int .u64 0, .int .u64 0] 32)) w5.heap.size 32 #[.bool false, .bool false, .bool false, .bool false, .bool false, .bool false, .bool false, .bool false, .int .u64 0, .int .u64 0, .int .u64 0] := Blk.new _ _ _; have hE := ((Ext.refl w5).alloc (.cells #[.bool false, .bool false, .bool false, .bool false, .bool false, .bool false, .bool false, .bool false, .int .u64 0, .int .u64 0, .int .u64 0] 32)).row (Nat.le_refl w5.heap.size) (ptC (tE L t k)); (try replace hc := hc.ext hE); (try replace hz := hz.ext hE); (try replace hm := hm.ext hE); (try replace h1 := h1.ext hE); (try replace h4 := h4.ext hE); (try replace hM := hM.ext hE); (try replace HE := Lib.hid (HE.out.trans hE)); (try replace r0 := r0.ext hE); (try replace r1 := r1.ext hE); (try replace r2 := r2.ext hE); (try replace r3 := r3.ext hE); (try replace r4 := r4.ext hE); (try replace r5 := r5.ext hE); (try replace r6 := r6.ext hE); clear hE; have h4 := zz1.row (ptC (tE L t k))
          go_wp2_with (first | ((refine wpList_store_blk rfl 32 _ _ rfl rfl rfl zz1 (pt_info _) (by simp [ptC_size]) (ptC_one _) ?_); clear zz1; generalize (w5.alloc (.cells #[.bool false, .bool false, .bool false, .bool false, .bool false, .bool false, .bool false, .bool false, .int .u64 0, .int .u64 0, .int .u64 0] 32)).setRow w5.heap.size (ptC (tE L t k)) = X at *) | (refine wpList_load_blk (by rfl) 32 _ rfl rfl h4 Tryd.underlying32 rfl (by kernel_rfl) ?_))
          refine (clk _).mono ?_
          rintro e w6 ⟨rfl, hE⟩
          (try replace hc := hc.ext hE); (try replace hz := hz.ext hE); (try replace hm := hm.ext hE); (try replace h1 := h1.ext hE); (try replace h4 := h4.ext hE); (try replace hM := hM.ext hE); (try replace HE := Lib.hid (HE.out.trans hE)); (try replace r0 := r0.ext hE); (try replace r1 := r1.ext hE); (try replace r2 := r2.ext hE); (try replace r3 := r3.ext hE); (try replace r4 := r4.ext hE); (try replace r5 := r5.ext hE); (try replace r6 := r6.ext hE)
          clear hE clk
          cases hg : goB L t k n
          · have e1 : Hid (frI L n t (k + 1) = frI L n t k) := Lib.hid (frI_skip hg)
            clear h4 hg hx9 hpp
            go_wp2
            go_roundw
            case rel => exact ⟨k + 1, A1, c1', M1, by omega, by go_num, rfl, by rw [e1.out]; exact hM1, by rw [e1.out]; exact hok, r1, h1, HE.out⟩
            case measure => simp [intOf]; omega
          · have hn1 : 1 ≤ n := by
              cases n with
              | zero => rw [go_zero] at hg; cases hg
              | succ n => omega
            have hs : (n : Int) - 1 = ((n - 1 : Nat) : Int) := by omega
            have crt := fun W (m : Mem W S B L d) (r : RowV KU W A1 M1 c1') => ih (n - 1) (by omega) (tE L t k).pp A1 M1 c1' W (by omega) (by rw [hM1.out]; exact okR_nd hok.out) (by rw [hM1.out]; exact okR_len hok.out) m r
            have hx := (h4.cell 9).trans hx9
            obtain ⟨n', hn'⟩ : ∃ n', n - 1 = n' := ⟨_, rfl⟩
            rw [hn'] at crt hs
            have Hn' := Lib.hid hn'
            clear hn'
            go_wp2_with (refine wpList_load_blk (by rfl) 25 _ rfl rfl h1 Tryd.underlying25 rfl (by kernel_rfl) ?_)
            refine (crt _ (hMm _ HE.out) r1).mono ?_
            rintro e w7 ⟨A5, c5, M5, rfl, hM5, r5, hE⟩
            (try replace hc := hc.ext hE); (try replace hz := hz.ext hE); (try replace hm := hm.ext hE); (try replace h1 := h1.ext hE); (try replace h4 := h4.ext hE); (try replace hM := hM.ext hE); (try replace HE := Lib.hid (HE.out.trans hE)); (try replace r0 := r0.ext hE); (try replace r1 := r1.ext hE); (try replace r2 := r2.ext hE); (try replace r3 := r3.ext hE); (try replace r4 := r4.ext hE); (try replace r5 := r5.ext hE); (try replace r6 := r6.ext hE)
            clear hE crt hx9 hx h4 ih
            clear hs hn1
            cases hres : rightM S L n' (tE L t k).pp M1
            · have hq := Lib.hid (right_fail hlt hg (by rw [← hM1.out, Hn'.out]; exact hres))
              rw [hres] at hM5
              clear hM5 hres hg Hn'
              go_wp2
              go_ret2
              exact rt_no hq.out r5 HE.out
            · have e5 := Lib.hid (show M5 = M ++ frI L n t (k + 1) by
                rw [frI_go hg, ← List.append_assoc, ← hM1.out, Hn'.out]
                exact hM5 hres)
              have hok2 := Lib.hid (right_step hok.out hg (by rw [← hM1.out, Hn'.out]; exact hres))
              clear hM5 hres hg hok Hn'
              go_wp2
              go_roundw
              case rel => exact ⟨k + 1, A5, c5, M5, by omega, by go_num, rfl, e5, hok2, r5, h1, HE.out⟩
              case measure => simp [intOf]; omega
theorem rright19_c {S : Nat} {B : Option Addr} {L : List (Nat × Nat)} {d : Nat} (hS : S ≤ 1099511627776) : ∀ n : Nat, n ≤ 2 → RtC S B L d n
  | 0, h => rright19_step hS 0 h fun n' e => by cases e
  | n + 1, h => rright19_step hS (n + 1) h fun n' e => by
    cases e
    exact rright19_c hS n (by omega)
end Go.Proofs.YticbjiddbjgikaaDoor
/- Layer 19's laws: fits; rows of numbers and of pages held against one another (Ints, Same of atlasref19). -/
namespace Go.Proofs.YticbjiddbjgikaaDoor
open Go.ChangeShapes Go.WideShapes Go.ChangeAt Go.RowKit
set_option linter.unusedVariables false
set_option linter.unusedSimpArgs false
set_option maxRecDepth 10000

attribute [local irreducible] World.setRow World.alloc Blk
/-- of a level that is none -/
theorem rright19_out {S : Nat} {B : Option Addr} {L : List (Nat × Nat)} {d t : Nat} {l : Int} (hl : ¬ (0 ≤ l ∧ l ≤ 2)) (w : World) :
    Calls Tryd.prog 52 #[.agg #[.int .u64 (S : Int), .slice B L.length d], .int .u64 (t : Int), .int .i64 l, .slice none 0 0] w fun r w' => r = .returned (.tuple #[.slice none 0 0, .bool false]) ∧ Ext w w' := by
  have HE := Lib.hid ((Ext.refl w).alloc (.cells #[.int .u64 (S : Int), .slice B L.length d] 25))
  by_cases h0 : l < 0
  · have d0 : decide (l < 0) = true := by simpa using h0
    clear h0 hl
    go_enter Tryd.func52, Tryd.ntmps52
    go_wp2
    go_ret2
    exact ⟨rfl, HE.out⟩
  · have d0 : decide (l < 0) = false := by simpa using h0
    have d2 : decide (2 < l) = true := by simp; omega
    clear h0 hl
    go_enter Tryd.func52, Tryd.ntmps52
    go_wp2
    go_ret2
    exact ⟨rfl, HE.out⟩
end Go.Proofs.YticbjiddbjgikaaDoor
