/- atlasref20: Leaf, where a frame is free. -/
import Derived.Test.YticbjiddbjgikaaDoorGsplm
import Derived.Test.YticbjiddbjgikaaDoorGrspf
import Derived.Test.YticbjiddbjgikaaDoorGtwel
import Derived.Test.YticbjiddbjgikaaDoorGrme
namespace Go.Proofs.YticbjiddbjgikaaDoor
open Go.ChangeShapes Go.WideShapes Go.ChangeAt Go.RowKit
set_option linter.unusedVariables false
set_option linter.unusedSimpArgs false
set_option maxRecDepth 10000
attribute [local irreducible] World.setRow World.alloc Blk
theorem append_rowB (w : World) (base : Nat) (v : Value) (n : Nat) (xs : List Value) (hown : w.ownsRow base 68 2 v n xs) (A : Option Addr) (L : List (Nat × Nat)) (c : Nat) (hr : RowL w A L c) (hn : n + L.length ≤ 100000) (hb : base ≤ w.heap.size) (ty : TypeId) :
    ∃ v' w', (Builtin.append_ #[23, 23] ty #[v, .slice A L.length c]).run Tryd.prog w = .ok v' w' ∧ w'.ownsRow base 68 2 v' (n + L.length) (xs ++ cellVs L) ∧ Below base w w' := by
  obtain ⟨v', w', h1, h2, h3⟩ := run_append_cl w base v n xs hown A L c hr hn hb ty
  exact ⟨v', w', h1, h2, Below.grown (Below.refl _ _) h3 hb (fun g h => (hown.lt g h).1)⟩
theorem NX0 (w : World) (H : Array Value) : Ext w ((w.alloc (.cells #[.bool false, .bool false, .bool false, .bool false, .bool false, .bool false, .bool false, .bool false, .int .u64 0, .int .u64 0, .int .u64 0] 32)).setRow w.heap.size H) ∧ Blk ((w.alloc (.cells #[.bool false, .bool false, .bool false, .bool false, .bool false, .bool false, .bool false, .bool false, .int .u64 0, .int .u64 0, .int .u64 0] 32)).setRow w.heap.size H) w.heap.size 32 H := ⟨((Ext.refl w).alloc _).row (Nat.le_refl _) _, (Blk.new _ _ _).row _⟩
set_option maxHeartbeats 16000000 in
theorem rleaf20_yes {S P M F : Nat} {L : List (Nat × Nat)} {B : Option Addr} {d a s l : Nat} (hP : P ≤ 268435456) (hM64 : M ≤ 64) (hF : F < 2 ^ M) (h0 : F ≠ 0) (hl2 : l + 1 ≤ 2) (ha : a < 18446744073709551616) (hs : s < S / 4096) (hlen : L.length ≤ 35000) (hlf : leafB (tE L s (ixN a (l + 1))) = true) (hfS : P + lowN' F < S / 4096) (h8 : S % 4096 = 0) (hpt : Parts (tE L s (ixN a (l + 1))) l) (hmy : ∀ i, i < 512 → mayB (prt (tE L s (ixN a (l + 1))) (l + 1) i) = true) (cpg : ∀ W, Calls Tryd.prog 37 #[.int .i64 (l : Int)] W fun e w' => e = .returned (.int .u64 ((szN l / 4096 : Nat) : Int)) ∧ W = w') (w : World) (hM : Mem w S B L d) :
    Calls Tryd.prog 18 #[.agg #[.int .u64 (S : Int), .slice B L.length d], (.agg #[.int .u64 (P : Int), .int .i64 (M : Int), .int .u64 (F : Int)]), .agg (sptC ⟨s, ((l + 1 : Nat) : Int), tE L s (ixN a (l + 1))⟩), .int .u64 (a : Int)] w fun r w' => ∃ B' d', r = .returned (.tuple #[.agg #[.int .u64 (S : Int), .slice B' (splS L (P + lowN' F) s (ixN a (l + 1)) (l + 1)).length d'], (.agg #[.int .u64 (P : Int), .int .i64 (M : Int), .int .u64 (takeF F : Int)]), .int .i64 0]) ∧
      Mem w' S B' (splS L (P + lowN' F) s (ixN a (l + 1)) (l + 1)) d' ∧ (∀ lo, Out lo w.heap.size B' (splS L (P + lowN' F) s (ixN a (l + 1)) (l + 1)).length) ∧ Ext w w' := by
  have cfr := fun W (m : Mem W S B L d) => rfresh19_o hP hM64 hF h0 W m
  unfold FrO at cfr
  have hMo := fun W (e : Ext w W) => hM.ext e
  have hSle := hM.ok.le
  have hft := low_top h0 hM64 hF
  obtain ⟨SP, hSP⟩ : ∃ SP : Spt, (⟨s, ((l + 1 : Nat) : Int), tE L s (ixN a (l + 1))⟩ : Spt) = SP := ⟨_, rfl⟩
  rw [hSP]
  obtain ⟨f, hf⟩ : ∃ f, P + lowN' F = f := ⟨_, rfl⟩
  rw [hf] at cfr ⊢
  have hfl : f ≤ 268435600 := by omega
  obtain ⟨p, hp⟩ : ∃ p, tE L s (ixN a (l + 1)) = p := ⟨_, rfl⟩
  have hspl : splS L f s (ixN a (l + 1)) (l + 1) = stS (insS (clrF L f) f (rowS f (tE L s (ixN a (l + 1))) (l + 1) 512)) s (ixN a (l + 1)) (putN (mkL f)) := by unfold splS lnkS; rfl
  rw [hspl]
  clear hspl
  have hins : RL (S / 8) (insS (clrF L f) f (rowS f (tE L s (ixN a (l + 1))) (l + 1) 512)) := ins_is hM.rl hlf hmy (by omega)
  have hinl := ins_len L f (tE L s (ixN a (l + 1))) (l + 1)
  have hsx0 : SP.tb = s := by rw [← hSP]
  have hsx1 : SP.lv = ((l + 1 : Nat) : Int) := by rw [← hSP]
  have hso := hM.ok
  have cwi := fun W A c K2 (m : Mem W S A K2 c) (hk : K2.length ≤ 35990) => rwith19_c (a := a) (p := mkL f) W m hk hsx0 hsx1 hl2 ha hs (mkL_may (by omega))
  unfold MdO at cwi
  have hbl : Tryd.prog.built 32 [(0, .bool true), (9, .int .u64 (f : Int))] = some (ptC (mkL f)) := by unfold mkL; rw [ptC_eq]; kernel_rfl
  rw [hp] at hpt hmy hins hinl ⊢
  obtain ⟨I, hI⟩ : ∃ I, insS (clrF L f) f (rowS f p (l + 1) 512) = I := ⟨_, rfl⟩
  rw [hI] at hins hinl ⊢
  have HI := Lib.hid hI
  clear hI
  have cw := fun W A c (m : Mem W S A I c) => cwi W A c I m (by omega)
  obtain ⟨K9, hK9⟩ : ∃ K9, stS I s (ixN a (l + 1)) (putN (mkL f)) = K9 := ⟨_, rfl⟩
  rw [hK9] at cw ⊢
  clear hK9 cwi
  obtain ⟨G, hG⟩ : ∃ G, takeF F = G := ⟨_, rfl⟩
  rw [hG] at cfr ⊢
  clear hG
  have hclr : (clrF L f).length ≤ L.length := by unfold clrF; exact cutL_len (by omega) []
  have h1 : Blk (((((w.alloc (.cells #[.int .u64 (S : Int), .slice B L.length d] 25)).alloc (.cells #[.int .u64 (P : Int), .int .i64 (M : Int), .int .u64 (F : Int)] 27)).alloc (.cells (sptC SP) 34)).alloc (.cells #[.int .u64 0, .slice none 0 0] 25)).alloc (.cells #[.int .u64 0, .int .i64 0, .int .u64 0] 27)) (w.heap.size) 25 #[.int .u64 (S : Int), .slice B L.length d] := ((((Blk.new w _ _).alloc _).alloc _).alloc _).alloc _
  have h2 : Blk (((((w.alloc (.cells #[.int .u64 (S : Int), .slice B L.length d] 25)).alloc (.cells #[.int .u64 (P : Int), .int .i64 (M : Int), .int .u64 (F : Int)] 27)).alloc (.cells (sptC SP) 34)).alloc (.cells #[.int .u64 0, .slice none 0 0] 25)).alloc (.cells #[.int .u64 0, .int .i64 0, .int .u64 0] 27)) (w.heap.size + 1) 27 #[.int .u64 (P : Int), .int .i64 (M : Int), .int .u64 (F : Int)] := (((blk_at (by simp)).alloc _).alloc _).alloc _
  have h3 : Blk (((((w.alloc (.cells #[.int .u64 (S : Int), .slice B L.length d] 25)).alloc (.cells #[.int .u64 (P : Int), .int .i64 (M : Int), .int .u64 (F : Int)] 27)).alloc (.cells (sptC SP) 34)).alloc (.cells #[.int .u64 0, .slice none 0 0] 25)).alloc (.cells #[.int .u64 0, .int .i64 0, .int .u64 0] 27)) (w.heap.size + 1 + 1) 34 (sptC SP) := ((blk_at (by simp)).alloc _).alloc _
  have k3 : Blk (((((w.alloc (.cells #[.int .u64 (S : Int), .slice B L.length d] 25)).alloc (.cells #[.int .u64 (P : Int), .int .i64 (M : Int), .int .u64 (F : Int)] 27)).alloc (.cells (sptC SP) 34)).alloc (.cells #[.int .u64 0, .slice none 0 0] 25)).alloc (.cells #[.int .u64 0, .int .i64 0, .int .u64 0] 27)) (w.heap.size + 1 + 1 + 1) 25 #[.int .u64 0, .slice none 0 0] := (blk_at (by simp)).alloc _
  have k4 : Blk (((((w.alloc (.cells #[.int .u64 (S : Int), .slice B L.length d] 25)).alloc (.cells #[.int .u64 (P : Int), .int .i64 (M : Int), .int .u64 (F : Int)] 27)).alloc (.cells (sptC SP) 34)).alloc (.cells #[.int .u64 0, .slice none 0 0] 25)).alloc (.cells #[.int .u64 0, .int .i64 0, .int .u64 0] 27)) (w.heap.size + 1 + 1 + 1 + 1) 27 #[.int .u64 0, .int .i64 0, .int .u64 0] := blk_at (by simp)
  have HE := Lib.hid (show Ext w (((((w.alloc (.cells #[.int .u64 (S : Int), .slice B L.length d] 25)).alloc (.cells #[.int .u64 (P : Int), .int .i64 (M : Int), .int .u64 (F : Int)] 27)).alloc (.cells (sptC SP) 34)).alloc (.cells #[.int .u64 0, .slice none 0 0] 25)).alloc (.cells #[.int .u64 0, .int .i64 0, .int .u64 0] 27)) from (((((Ext.refl w).alloc _).alloc _).alloc _).alloc _).alloc _)
  have x1 : (sptC SP)[1]? = some (.int .i64 ((l + 1 : Nat) : Int)) := by rw [← hSP]; exact sptC_lv _
  have hpx : (sptC SP).extract 2 (2 + (ptC p).size) = ptC p := by rw [← hSP, ← hp]; exact sptC_pt _
  go_enter Tryd.func18, Tryd.ntmps18
  go_wp2_with (first | (refine wpList_load_blk (by rfl) 25 _ rfl rfl h1 Tryd.underlying25 rfl (by kernel_rfl) ?_) | (refine wpList_load_blk (by rfl) 27 _ rfl rfl h2 Tryd.underlying27 rfl (by kernel_rfl) ?_))
  generalize ((((w.alloc (.cells #[.int .u64 (S : Int), .slice B L.length d] 25)).alloc (.cells #[.int .u64 (P : Int), .int .i64 (M : Int), .int .u64 (F : Int)] 27)).alloc (.cells (sptC SP) 34)).alloc (.cells #[.int .u64 0, .slice none 0 0] 25)).alloc (.cells #[.int .u64 0, .int .i64 0, .int .u64 0] 27) = W1 at *
  refine (cfr _ (hMo _ HE.out)).mono ?_
  rintro e w7 ⟨B2, d2, rfl, r0, hO2, hE⟩
  (try replace hb := hb.ext hE); (try replace hc := hc.ext hE); (try replace hz := hz.ext hE); (try replace h1 := h1.ext hE); (try replace h2 := h2.ext hE); (try replace h3 := h3.ext hE); (try replace h6 := h6.ext hE); (try replace h7 := h7.ext hE); (try replace h8 := h8.ext hE); (try replace k3 := k3.ext hE); (try replace k4 := k4.ext hE); (try replace hM := hM.ext hE); (try replace HE := Lib.hid (HE.out.trans hE)); (try replace r0 := r0.ext hE); (try replace r1 := r1.ext hE); (try replace r2 := r2.ext hE); (try replace r3 := r3.ext hE); (try replace r4 := r4.ext hE); (try replace r5 := r5.ext hE); (try replace r6 := r6.ext hE)
  clear hE cfr
  have l4 := k4.lt
  have h6 : Blk ((w7.alloc (.cells #[.int .u64 (S : Int), .slice B2 (clrF L f).length d2] 25)).alloc (.cells #[.int .u64 (P : Int), .int .i64 (M : Int), .int .u64 (G : Int)] 27)) w7.heap.size 25 #[.int .u64 (S : Int), .slice B2 (clrF L f).length d2] := (Blk.new w7 _ _).alloc _
  have h7 : Blk ((w7.alloc (.cells #[.int .u64 (S : Int), .slice B2 (clrF L f).length d2] 25)).alloc (.cells #[.int .u64 (P : Int), .int .i64 (M : Int), .int .u64 (G : Int)] 27)) (w7.heap.size + 1) 27 #[.int .u64 (P : Int), .int .i64 (M : Int), .int .u64 (G : Int)] := blk_at (by simp)
  have h6b := h6
  have h7b := h7
  clear h6 h7
  have hE := ((Ext.refl w7).alloc (.cells #[.int .u64 (S : Int), .slice B2 (clrF L f).length d2] 25)).alloc (.cells #[.int .u64 (P : Int), .int .i64 (M : Int), .int .u64 (G : Int)] 27)
  (try replace hb := hb.ext hE); (try replace hc := hc.ext hE); (try replace hz := hz.ext hE); (try replace h1 := h1.ext hE); (try replace h2 := h2.ext hE); (try replace h3 := h3.ext hE); (try replace h6 := h6.ext hE); (try replace h7 := h7.ext hE); (try replace h8 := h8.ext hE); (try replace k3 := k3.ext hE); (try replace k4 := k4.ext hE); (try replace hM := hM.ext hE); (try replace HE := Lib.hid (HE.out.trans hE)); (try replace r0 := r0.ext hE); (try replace r1 := r1.ext hE); (try replace r2 := r2.ext hE); (try replace r3 := r3.ext hE); (try replace r4 := r4.ext hE); (try replace r5 := r5.ext hE); (try replace r6 := r6.ext hE)
  clear hE
  go_wp2_with fail
  generalize (w7.alloc (.cells #[.int .u64 (S : Int), .slice B2 (clrF L f).length d2] 25)).alloc (.cells #[.int .u64 (P : Int), .int .i64 (M : Int), .int .u64 (G : Int)] 27) = W2 at *
  generalize clrF L f = K at *
  have hrn : ∀ k, rowS f p (l + 1) (k + 1) = rowS f p (l + 1) k ++ [(512 * f + k, putN (prt p (l + 1) k))] := fun k => by unfold rowS; rw [List.range_succ, List.map_append]; rfl
  have hr0 : rowS f p (l + 1) 0 = [] := rfl
  have hrl : ∀ k, (rowS f p (l + 1) k).length = k := fun k => by unfold rowS; simp
  have hpp : p.pp < 17592186044416 := by rw [← hp]; exact tE_pp _ _ _
  have hpr : ∀ k, k < 512 → p.pp + k * (szN l / 4096) < 17592186044416 := fun k hk => hpt.pp k hk
  have hset : ∀ k, (ptC p).setIfInBounds 9 (.int .u64 ((p.pp + k * (szN l / 4096) : Nat) : Int)) = ptC (prt p (l + 1) k) := fun k => by unfold prt; simp only [ptC_eq]; rfl
  have x9 := ptC_pp p
  go_loopw [15, 16] (fun out i wr => ∃ k : Nat, k ≤ 512 ∧ i = .int .u64 k ∧ wr.ownsRow W2.heap.size 68 2 out k (cellVs (rowS f p (l + 1) k)) ∧ Ext W2 wr) (fun _ i _ => (512 - intOf i).toNat)
  case atStart => exact ⟨0, by omega, rfl, by rw [hr0]; exact World.ownsRow_nil _ _ _ _, Ext.refl _⟩
  case round =>
    obtain ⟨k, hk, rfl, hown, hEw⟩ := hrel
    have HW := Lib.hid hEw
    have hsz := hEw.size
    have g3 := h3.ext hEw
    by_cases hlt : k < 512
    case neg =>
      obtain rfl : k = 512 := by omega
      have hrow5 := hrl 512
      have h6 := h6b
      have h7 := h7b
      have hE := hEw
      (try replace hb := hb.ext hE); (try replace hc := hc.ext hE); (try replace hz := hz.ext hE); (try replace h1 := h1.ext hE); (try replace h2 := h2.ext hE); (try replace h3 := h3.ext hE); (try replace h6 := h6.ext hE); (try replace h7 := h7.ext hE); (try replace h8 := h8.ext hE); (try replace k3 := k3.ext hE); (try replace k4 := k4.ext hE); (try replace hM := hM.ext hE); (try replace HE := Lib.hid (HE.out.trans hE)); (try replace r0 := r0.ext hE); (try replace r1 := r1.ext hE); (try replace r2 := r2.ext hE); (try replace r3 := r3.ext hE); (try replace r4 := r4.ext hE); (try replace r5 := r5.ext hE); (try replace r6 := r6.ext hE)
      clear hE h6b h7b hrn hr0 hpr hset x9 hlt hk cpg hmy hpt hrl hEw HW hpx x1 g3
      generalize rowS f p (l + 1) 512 = row at *
      obtain ⟨A5, c5, rfl, hR5⟩ := own_row_n hown hrow5
      clear hown
      obtain ⟨bk, hbk⟩ : ∃ bk, wr.heap.size = bk := ⟨_, rfl⟩
      have Hbk := Lib.hid hbk
      have g6 := Lib.hid h6
      have gr0 := Lib.hid r0
      have gR5 := Lib.hid hR5
      have hKl := hclr
      clear hclr
      go_wp2_with fail
      generalize wr = wA at *
      have hap5 : ∀ (W : World) (v : Value) (n : Nat) (xs : List Value), W.ownsRow wA.heap.size 68 2 v n xs → RowL W A5 row c5 → n + 512 ≤ 100000 → wA.heap.size ≤ W.heap.size → ∀ ty, ∃ v' w', (Builtin.append_ #[23, 23] ty #[v, .slice A5 512 c5]).run Tryd.prog W = .ok v' w' ∧ w'.ownsRow wA.heap.size 68 2 v' (n + 512) (xs ++ cellVs row) ∧ Below wA.heap.size W w' := fun W v n xs h hr hn hb ty => by
        have := append_rowB W wA.heap.size v n xs h A5 row c5 hr (by rw [hrow5]; exact hn) hb ty
        rw [hrow5] at this
        exact this
      go_loopw [18, 19, 20] (fun out ld i wr => ∃ (k : Nat) (lb : Bool) (O : List (Nat × Nat)), k ≤ K.length ∧ i = .int .i64 k ∧ ld = .bool lb ∧ wr.ownsRow wA.heap.size 68 2 out O.length (cellVs O) ∧ Hid (LayAt K f row k lb O) ∧ (lb = false → O.length ≤ k) ∧ O.length ≤ k + 512 ∧ Ext wA wr) (fun _ _ i _ => (K.length - intOf i).toNat)
      case atStart => exact ⟨0, false, [], by omega, rfl, rfl, World.ownsRow_nil _ _ _ _, Lib.hid lay_0, (fun _ => by simp), by simp, Ext.refl _⟩
      case round =>
        obtain ⟨k, lb, O, hk, rfl, rfl, hownO, hLay, hOf, hOl, hEq⟩ := hrel
        have HQ := Lib.hid hEq
        have hbq : wA.heap.size ≤ wr.heap.size := hEq.size
        have y6 : wr.cell? ⟨w7.heap.size, 1, none⟩ = some (.slice B2 K.length d2) := (g6.out.ext hEq).cell 1
        by_cases hlt : k < K.length
        case pos =>
          obtain ⟨b, off, hB2, hbb, hc⟩ := gr0.out.row.1 (by omega)
          subst hB2
          obtain ⟨hc1, hc2⟩ := hc k hlt
          have cc1 := (hEq.cell (p := ⟨b, off + k * 2, none⟩) hbb).trans hc1
          have cc2 := (hEq.cell (p := ⟨b, off + k * 2 + 1, none⟩) hbb).trans hc2
          have hz : (k : Int) < (K.length : Int) := by omega
          have hKk : K[k] = (atN K k, vlN K k) := by rw [atN_get hlt, vlN_get hlt]
          clear hc h1 h2 h3 k3 k4 h6 h7 r0 HE hins hinl cw hbl HI hso hsx0 hsx1 hEq
          cases lb
          case false =>
            have hO1 := hOf rfl
            clear hOf
            by_cases ha9 : atN K k < 512 * f
            case pos =>
              have d9 : decide (512 * f ≤ atN K k) = false := by simp; omega
              have d8 : decide (512 * (f : Int) ≤ ((atN K k : Nat) : Int)) = false := decide_eq_false (by omega)
              have hst := lay_less hlt ha9 hLay.out
              rw [hKk] at hst
              have Hst := Lib.hid hst
              clear hst ha9 hKk
              go_wp2_with (at_builtin; refine wpList_append_run' _ rfl _ _ _ rfl _ _ rfl rfl _ (run_append_one _ wA.heap.size _ _ _ (by assumption) _ _ (by omega) (by omega) _) ?_; rintro v4 w4 ⟨hown4, hB4⟩)
              go_roundw
              case rel =>
                repeat (first | (refine ⟨⟨_, _, _, ?_, ?_, ?_, ?_, Hst, ?_, ?_, Below.trans HQ.out hB4⟩, rfl⟩) | apply Exists.intro)
                all_goals first | omega | go_num | rfl | (simpa using hown4) | (intro _; simp; omega) | (simp; omega)
              case measure => simp [intOf]; omega
            have d9 : decide (512 * f ≤ atN K k) = true := by simp; omega
            have d8 : decide (512 * (f : Int) ≤ ((atN K k : Nat) : Int)) = true := decide_eq_true (by omega)
            have hst := lay_laid gr0.out.rl hlt (Nat.le_of_not_lt ha9) hLay.out
            rw [hKk] at hst
            have Hst := Lib.hid hst
            have hl9 : ((O ++ row) ++ [(atN K k, vlN K k)]).length = O.length + 512 + 1 := by simp [hrow5]
            have Hl9 := Lib.hid hl9
            have hapx := hap5 _ _ _ _ hownO (gR5.out.ext HQ.out) (by omega) (by omega)
            have hO9 : O.length + 512 ≤ 90000 := by omega
            have fy6 : Hid (∀ W, Ext wA W → W.cell? ⟨w7.heap.size, 1, none⟩ = some (.slice (some ⟨b, off, none⟩) K.length d2)) := Lib.hid fun W e => (g6.out.ext e).cell 1
            have fc1 : Hid (∀ W, Ext wA W → W.cell? ⟨b, off + k * 2, none⟩ = some (.int .u64 ((atN K k : Nat) : Int))) := Lib.hid fun W e => (e.cell (p := ⟨b, off + k * 2, none⟩) hbb).trans hc1
            have fc2 : Hid (∀ W, Ext wA W → W.cell? ⟨b, off + k * 2 + 1, none⟩ = some (.int .u64 ((vlN K k : Nat) : Int))) := Lib.hid fun W e => (e.cell (p := ⟨b, off + k * 2 + 1, none⟩) hbb).trans hc2
            have hap1f : ∀ (W : World) (x : Value) (L : List (Nat × Nat)), W.ownsRow wA.heap.size 68 2 x (O.length + 512) (cellVs L) → wA.heap.size ≤ W.heap.size → ∀ p v ty, _ := fun W x L h hb p v ty => run_append_one W wA.heap.size x _ L h p v hO9 hb ty
            clear hst ha9 hKk hl9 hap5 hc1 hc2 hbb hO9
            go_upto_region 17 with fail
            clear d8 d9
            go_wp2_with (first | (at_builtin; refine wpList_append_run' _ rfl _ _ _ rfl _ _ rfl rfl _ (hap1 _ _ _) ?_; rintro v4 w4 ⟨hown4, hB4⟩) | (at_builtin; refine wpList_append_run' _ rfl _ _ _ rfl _ _ rfl rfl _ (hapx _) ?_; rintro v3 w3 ⟨hown3, hB3⟩; rw [← cellVs_app] at hown3; have hE3 : Ext wA w3 := Below.trans HQ.out hB3; have hb3 := hE3.size; have y6 := fy6.out _ hE3; have cc1 := fc1.out _ hE3; have cc2 := fc2.out _ hE3; have hap1 := hap1f _ _ _ hown3 hb3))
            go_roundw
            case rel =>
              repeat (first | (refine ⟨⟨_, _, _, ?_, ?_, ?_, ?_, Hst, ?_, ?_, Below.trans hE3 hB4⟩, rfl⟩) | apply Exists.intro)
              all_goals first | omega | go_num | rfl | (rw [Hl9.out]; exact hown4) | (intro h; cases h) | (rw [Hl9.out]; omega)
            case measure => simp [intOf]; omega
          have hst := lay_more hlt hLay.out
          rw [hKk] at hst
          have Hst := Lib.hid hst
          clear hst hKk hOf
          go_wp2_with (at_builtin; refine wpList_append_run' _ rfl _ _ _ rfl _ _ rfl rfl _ (run_append_one _ wA.heap.size _ _ _ (by assumption) _ _ (by omega) (by omega) _) ?_; rintro v4 w4 ⟨hown4, hB4⟩)
          go_roundw
          case rel =>
            repeat (first | (refine ⟨⟨_, _, _, ?_, ?_, ?_, ?_, Hst, ?_, ?_, Below.trans HQ.out hB4⟩, rfl⟩) | apply Exists.intro)
            all_goals first | omega | go_num | rfl | (intro h; cases h) | (simpa using hown4) | (simp; omega)
          case measure => simp [intOf]; omega
        have hkK : k = K.length := by omega
        have l6w := h6.lt
        cases lb
        case false =>
          have hO1 := hOf rfl
          have hLy := hLay.out
          rw [hkK] at hLy
          have hfi := (lay_f hLy).trans HI.out
          have Hfi := Lib.hid hfi
          have hIl := Lib.hid (show I.length = O.length + 512 by rw [← hfi]; simp [hrow5])
          clear hOf hLy hLay hfi HI gr0
          have hdk : decide ((k : Int) < (K.length : Int)) = false := by simp; omega
          go_wp2_with (first | (at_builtin; refine wpList_append_run' _ rfl _ _ _ rfl _ _ rfl rfl _ (hap5 _ _ _ _ (by assumption) (gR5.out.ext HQ.out) (by omega) (by omega) _) ?_; rintro v3 w3 ⟨hown3, hB3⟩; rw [← cellVs_app, Hfi.out, ← hIl.out] at hown3; have hE : Ext wA w3 := Below.trans HQ.out hB3; (try replace hb := hb.ext hE); (try replace hc := hc.ext hE); (try replace hz := hz.ext hE); (try replace h1 := h1.ext hE); (try replace h2 := h2.ext hE); (try replace h3 := h3.ext hE); (try replace h6 := h6.ext hE); (try replace h7 := h7.ext hE); (try replace h8 := h8.ext hE); (try replace k3 := k3.ext hE); (try replace k4 := k4.ext hE); (try replace hM := hM.ext hE); (try replace HE := Lib.hid (HE.out.trans hE)); (try replace r0 := r0.ext hE); (try replace r1 := r1.ext hE); (try replace r2 := r2.ext hE); (try replace r3 := r3.ext hE); (try replace r4 := r4.ext hE); (try replace r5 := r5.ext hE); (try replace r6 := r6.ext hE); clear hE; obtain ⟨A6, c6, rfl, hr6, ho6⟩ := own_row_out hown3 (Nat.le_refl _)) | (refine wpList_store_cell (es := #[.int .u64 (S : Int), .slice A6 I.length c6]) rfl 23 _ _ rfl rfl rfl h6 (by simp) (by rfl) (by kernel_rfl) rfl rfl ?_))
          have hm6 : Mem w3 S A6 I c6 := ⟨hr6, hins, hso, by omega⟩
          have l6 := h6.lt
          have f3 := h3.apart (show w.heap.size + 1 + 1 ≠ w7.heap.size by omega) #[.int .u64 (S : Int), .slice A6 I.length c6]
          have f4 := k3.apart (show w.heap.size + 1 + 1 + 1 ≠ w7.heap.size by omega) #[.int .u64 (S : Int), .slice A6 I.length c6]
          have f5 := k4.apart (show w.heap.size + 1 + 1 + 1 + 1 ≠ w7.heap.size by omega) #[.int .u64 (S : Int), .slice A6 I.length c6]
          have f7 := h7.apart (show w7.heap.size + 1 ≠ w7.heap.size by omega) #[.int .u64 (S : Int), .slice A6 I.length c6]
          have f6 := h6.row #[.int .u64 (S : Int), .slice A6 I.length c6]
          have rf := hm6.row' (ho6 w.heap.size) (show w.heap.size ≤ w7.heap.size by omega) l6w #[.int .u64 (S : Int), .slice A6 I.length c6]
          have HEf := Lib.hid (HE.out.row (show w.heap.size ≤ w7.heap.size by omega) #[.int .u64 (S : Int), .slice A6 I.length c6])
          clear hm6 hr6 h3 k3 k4 h7 HE
          clear h6 ho6
          generalize World.setRow w3 w7.heap.size #[.int .u64 (S : Int), .slice A6 I.length c6] = W5 at *
          have h3 := f3
          have k3 := f4
          have k4 := f5
          have h6 := f6
          have h7 := f7
          have r0 := rf
          have HE := HEf
          clear f3 f4 f5 f6 f7 rf HEf
          have hE := (Ext.refl W5).drew
          (try replace hb := hb.ext hE); (try replace hc := hc.ext hE); (try replace hz := hz.ext hE); (try replace h1 := h1.ext hE); (try replace h2 := h2.ext hE); (try replace h3 := h3.ext hE); (try replace h6 := h6.ext hE); (try replace h7 := h7.ext hE); (try replace h8 := h8.ext hE); (try replace k3 := k3.ext hE); (try replace k4 := k4.ext hE); (try replace hM := hM.ext hE); (try replace HE := Lib.hid (HE.out.trans hE)); (try replace r0 := r0.ext hE); (try replace r1 := r1.ext hE); (try replace r2 := r2.ext hE); (try replace r3 := r3.ext hE); (try replace r4 := r4.ext hE); (try replace r5 := r5.ext hE); (try replace r6 := r6.ext hE)
          clear hE
          have l7 := k4.lt
          refine wp_region_seq [(0, false), (1, false), (2, false), (3, false), (4, false), (6, false), (5, true), (7, true), (8, true), (9, false)] (Gap (w.heap.size + 1 + 1 + 1) (w.heap.size + 1 + 1 + 1 + 1 + 1)) (by kernel_rfl) (by kernel_rfl) (Gap.refl _ _) (fun _ _ _ => Gap.trans) ?_; simp only [List.map, nth_z, nth_s]
          generalize W5.drew = wz at *
          refine seq_load rfl rfl (fun x hx => Gap.blk hx (h6) (by omega)) rfl Tryd.underlying25 (by kernel_rfl) (by rfl) ?_; intro K hK; simp only [Act.put, List.setIfInBounds_toArray, List.set_cons_zero, List.set_cons_succ]; refine hK _ ?_; clear hK K
          refine seq_load rfl rfl (fun x hx => Gap.blk hx (h3) (by omega)) rfl Tryd.underlying34 (spt_info _) (by rfl) ?_; intro K hK; simp only [Act.put, List.setIfInBounds_toArray, List.set_cons_zero, List.set_cons_succ]; refine hK _ ?_; clear hK K
          (repeat (first | (refine seq_skip (by rfl) ?_; intro K hK; simp only [Act.put, List.setIfInBounds_toArray, List.set_cons_zero, List.set_cons_succ]; refine hK _ ?_; clear hK K) | (refine seq_skipc (by rfl) ?_; intro K hK; simp only [Act.put, List.setIfInBounds_toArray, List.set_cons_zero, List.set_cons_succ]; refine hK _ ?_; clear hK K) | (refine seq_read (by rfl) (by rfl) ?_; intro K hK; go_big_quiet_op; first | go_big_quiet_on | (refine ⟨_, fun _ _ => rfl, ?_⟩; go_big_quiet_on))))
          refine seq_build_as rfl (hbl) (by rfl) ?_; intro K hK; simp only [Act.put, List.setIfInBounds_toArray, List.set_cons_zero, List.set_cons_succ]; refine hK _ ?_; clear hK K
          refine seq_load rfl rfl (fun x hx => Gap.blk hx (h7) (by omega)) rfl Tryd.underlying27 (by kernel_rfl) (by rfl) ?_; intro K hK; simp only [Act.put, List.setIfInBounds_toArray, List.set_cons_zero, List.set_cons_succ]; refine hK _ ?_; clear hK K
          refine seq_call ((cw _ _ _ r0)) rfl Tryd.func23 (by kernel_rfl) (by kernel_rfl) (by rfl) (by rfl) ?_; intro K hK; rintro e w' ⟨B9, d9, rfl, hM9, hO9, hE⟩; refine ⟨_, rfl, (Gap.ext hE), ?_⟩; simp only [Act.put, List.setIfInBounds_toArray, List.set_cons_zero, List.set_cons_succ]; refine hK _ _ ?_; clear hK K
          have hO5 : ∀ lo, Out lo w.heap.size B9 K9.length := fun lo a hl ha => by
            have q1 := hO9 lo a hl ha
            have q2 := HE.out.size
            omega
          (try replace hb := hb.ext hE); (try replace hc := hc.ext hE); (try replace hz := hz.ext hE); (try replace h1 := h1.ext hE); (try replace h2 := h2.ext hE); (try replace h3 := h3.ext hE); (try replace h6 := h6.ext hE); (try replace h7 := h7.ext hE); (try replace h8 := h8.ext hE); (try replace k3 := k3.ext hE); (try replace k4 := k4.ext hE); (try replace hM := hM.ext hE); (try replace HE := Lib.hid (HE.out.trans hE)); (try replace r0 := r0.ext hE); (try replace r1 := r1.ext hE); (try replace r2 := r2.ext hE); (try replace r3 := r3.ext hE); (try replace r4 := r4.ext hE); (try replace r5 := r5.ext hE); (try replace r6 := r6.ext hE)
          clear hE
          have hO4 := hO9 (w.heap.size + 1 + 1 + 1)
          clear hO9
          refine seq_store_row rfl rfl rfl (k3) (by kernel_rfl) (by rfl) (by simp [Value.oneCell']) (by rfl) (Gap.row _ (by omega) (by omega) _) ?_; intro K hK; simp only [Act.put, List.setIfInBounds_toArray, List.set_cons_zero, List.set_cons_succ]; refine hK _ _ ?_; clear hK K
          replace k4 := k4.apart (show w.heap.size + 1 + 1 + 1 + 1 ≠ w.heap.size + 1 + 1 + 1 by omega) #[.int .u64 (S : Int), .slice B9 K9.length d9]
          refine seq_store_row rfl rfl rfl (k4) (by kernel_rfl) (by rfl) (by simp [Value.oneCell']) (by rfl) (Gap.row _ (by omega) (by omega) _) ?_; intro K hK; simp only [Act.put, List.setIfInBounds_toArray, List.set_cons_zero, List.set_cons_succ]; refine hK _ _ ?_; clear hK K
          (repeat (first | (refine seq_skip (by rfl) ?_; intro K hK; simp only [Act.put, List.setIfInBounds_toArray, List.set_cons_zero, List.set_cons_succ]; refine hK _ ?_; clear hK K) | (refine seq_skipc (by rfl) ?_; intro K hK; simp only [Act.put, List.setIfInBounds_toArray, List.set_cons_zero, List.set_cons_succ]; refine hK _ ?_; clear hK K) | (refine seq_read (by rfl) (by rfl) ?_; intro K hK; go_big_quiet_op; first | go_big_quiet_on | (refine ⟨_, fun _ _ => rfl, ?_⟩; go_big_quiet_on))))
          refine seq_done ?_
          go_wp2
          (try simp only [Exit.inBlock, Exit.then])
          (try rw [Exit.noGoto_ret])
          refine bodyPost_ret (results_cct rfl _ _ rfl rfl ((k3.row #[.int .u64 (S : Int), .slice B9 K9.length d9]).apart (by omega) #[.int .u64 (P : Int), .int .i64 (M : Int), .int .u64 (G : Int)]) (k4.row #[.int .u64 (P : Int), .int .i64 (M : Int), .int .u64 (G : Int)]) Tryd.underlying25 rfl (by kernel_rfl) Tryd.underlying27 rfl (by kernel_rfl)) rfl ?_
          have hE2 := (HE.out.row (show w.heap.size ≤ w.heap.size + 1 + 1 + 1 by omega) #[.int .u64 (S : Int), .slice B9 K9.length d9]).row (show w.heap.size ≤ w.heap.size + 1 + 1 + 1 + 1 by omega) #[.int .u64 (P : Int), .int .i64 (M : Int), .int .u64 (G : Int)]
          exact ⟨B9, d9, rfl, (hM9.row' hO4 (by omega) (by omega) _).row' hO4 (by omega) (by omega) _, hO5, hE2⟩
        have hLy := hLay.out
        rw [hkK] at hLy
        have hfi := (lay_t hLy).trans HI.out
        rw [hfi] at hownO
        obtain ⟨A6, c6, rfl, hr6, ho6⟩ := own_row_out hownO (Nat.le_refl _)
        have hE := hEq
        (try replace hb := hb.ext hE); (try replace hc := hc.ext hE); (try replace hz := hz.ext hE); (try replace h1 := h1.ext hE); (try replace h2 := h2.ext hE); (try replace h3 := h3.ext hE); (try replace h6 := h6.ext hE); (try replace h7 := h7.ext hE); (try replace h8 := h8.ext hE); (try replace k3 := k3.ext hE); (try replace k4 := k4.ext hE); (try replace hM := hM.ext hE); (try replace HE := Lib.hid (HE.out.trans hE)); (try replace r0 := r0.ext hE); (try replace r1 := r1.ext hE); (try replace r2 := r2.ext hE); (try replace r3 := r3.ext hE); (try replace r4 := r4.ext hE); (try replace r5 := r5.ext hE); (try replace r6 := r6.ext hE)
        clear hE hOf hLy hLay HI gr0 hownO hfi hOl
        have hdk : decide ((k : Int) < (K.length : Int)) = false := by simp; omega
        have hm6 : Mem wr S A6 I c6 := ⟨hr6, hins, hso, by omega⟩
        have l6 := h6.lt
        have f3 := h3.apart (show w.heap.size + 1 + 1 ≠ w7.heap.size by omega) #[.int .u64 (S : Int), .slice A6 I.length c6]
        have f4 := k3.apart (show w.heap.size + 1 + 1 + 1 ≠ w7.heap.size by omega) #[.int .u64 (S : Int), .slice A6 I.length c6]
        have f5 := k4.apart (show w.heap.size + 1 + 1 + 1 + 1 ≠ w7.heap.size by omega) #[.int .u64 (S : Int), .slice A6 I.length c6]
        have f7 := h7.apart (show w7.heap.size + 1 ≠ w7.heap.size by omega) #[.int .u64 (S : Int), .slice A6 I.length c6]
        have f6 := h6.row #[.int .u64 (S : Int), .slice A6 I.length c6]
        have rf := hm6.row' (ho6 w.heap.size) (show w.heap.size ≤ w7.heap.size by omega) l6w #[.int .u64 (S : Int), .slice A6 I.length c6]
        have HEf := Lib.hid (HE.out.row (show w.heap.size ≤ w7.heap.size by omega) #[.int .u64 (S : Int), .slice A6 I.length c6])
        clear hm6 hr6 h3 k3 k4 h7 HE
        go_wp2_with (refine wpList_store_cell (es := #[.int .u64 (S : Int), .slice A6 I.length c6]) rfl 23 _ _ rfl rfl rfl h6 (by simp) (by rfl) (by kernel_rfl) rfl rfl ?_)
        clear h6 ho6
        generalize World.setRow wr w7.heap.size #[.int .u64 (S : Int), .slice A6 I.length c6] = W5 at *
        have h3 := f3
        have k3 := f4
        have k4 := f5
        have h6 := f6
        have h7 := f7
        have r0 := rf
        have HE := HEf
        clear f3 f4 f5 f6 f7 rf HEf
        have hE := (Ext.refl W5).drew
        (try replace hb := hb.ext hE); (try replace hc := hc.ext hE); (try replace hz := hz.ext hE); (try replace h1 := h1.ext hE); (try replace h2 := h2.ext hE); (try replace h3 := h3.ext hE); (try replace h6 := h6.ext hE); (try replace h7 := h7.ext hE); (try replace h8 := h8.ext hE); (try replace k3 := k3.ext hE); (try replace k4 := k4.ext hE); (try replace hM := hM.ext hE); (try replace HE := Lib.hid (HE.out.trans hE)); (try replace r0 := r0.ext hE); (try replace r1 := r1.ext hE); (try replace r2 := r2.ext hE); (try replace r3 := r3.ext hE); (try replace r4 := r4.ext hE); (try replace r5 := r5.ext hE); (try replace r6 := r6.ext hE)
        clear hE
        have l7 := k4.lt
        refine wp_region_seq [(0, false), (1, false), (2, false), (3, false), (4, false), (6, false), (5, true), (7, true), (8, true), (9, false)] (Gap (w.heap.size + 1 + 1 + 1) (w.heap.size + 1 + 1 + 1 + 1 + 1)) (by kernel_rfl) (by kernel_rfl) (Gap.refl _ _) (fun _ _ _ => Gap.trans) ?_; simp only [List.map, nth_z, nth_s]
        generalize W5.drew = wz at *
        refine seq_load rfl rfl (fun x hx => Gap.blk hx (h6) (by omega)) rfl Tryd.underlying25 (by kernel_rfl) (by rfl) ?_; intro K hK; simp only [Act.put, List.setIfInBounds_toArray, List.set_cons_zero, List.set_cons_succ]; refine hK _ ?_; clear hK K
        refine seq_load rfl rfl (fun x hx => Gap.blk hx (h3) (by omega)) rfl Tryd.underlying34 (spt_info _) (by rfl) ?_; intro K hK; simp only [Act.put, List.setIfInBounds_toArray, List.set_cons_zero, List.set_cons_succ]; refine hK _ ?_; clear hK K
        (repeat (first | (refine seq_skip (by rfl) ?_; intro K hK; simp only [Act.put, List.setIfInBounds_toArray, List.set_cons_zero, List.set_cons_succ]; refine hK _ ?_; clear hK K) | (refine seq_skipc (by rfl) ?_; intro K hK; simp only [Act.put, List.setIfInBounds_toArray, List.set_cons_zero, List.set_cons_succ]; refine hK _ ?_; clear hK K) | (refine seq_read (by rfl) (by rfl) ?_; intro K hK; go_big_quiet_op; first | go_big_quiet_on | (refine ⟨_, fun _ _ => rfl, ?_⟩; go_big_quiet_on))))
        refine seq_build_as rfl (hbl) (by rfl) ?_; intro K hK; simp only [Act.put, List.setIfInBounds_toArray, List.set_cons_zero, List.set_cons_succ]; refine hK _ ?_; clear hK K
        refine seq_load rfl rfl (fun x hx => Gap.blk hx (h7) (by omega)) rfl Tryd.underlying27 (by kernel_rfl) (by rfl) ?_; intro K hK; simp only [Act.put, List.setIfInBounds_toArray, List.set_cons_zero, List.set_cons_succ]; refine hK _ ?_; clear hK K
        refine seq_call ((cw _ _ _ r0)) rfl Tryd.func23 (by kernel_rfl) (by kernel_rfl) (by rfl) (by rfl) ?_; intro K hK; rintro e w' ⟨B9, d9, rfl, hM9, hO9, hE⟩; refine ⟨_, rfl, (Gap.ext hE), ?_⟩; simp only [Act.put, List.setIfInBounds_toArray, List.set_cons_zero, List.set_cons_succ]; refine hK _ _ ?_; clear hK K
        have hO5 : ∀ lo, Out lo w.heap.size B9 K9.length := fun lo a hl ha => by
          have q1 := hO9 lo a hl ha
          have q2 := HE.out.size
          omega
        (try replace hb := hb.ext hE); (try replace hc := hc.ext hE); (try replace hz := hz.ext hE); (try replace h1 := h1.ext hE); (try replace h2 := h2.ext hE); (try replace h3 := h3.ext hE); (try replace h6 := h6.ext hE); (try replace h7 := h7.ext hE); (try replace h8 := h8.ext hE); (try replace k3 := k3.ext hE); (try replace k4 := k4.ext hE); (try replace hM := hM.ext hE); (try replace HE := Lib.hid (HE.out.trans hE)); (try replace r0 := r0.ext hE); (try replace r1 := r1.ext hE); (try replace r2 := r2.ext hE); (try replace r3 := r3.ext hE); (try replace r4 := r4.ext hE); (try replace r5 := r5.ext hE); (try replace r6 := r6.ext hE)
        clear hE
        have hO4 := hO9 (w.heap.size + 1 + 1 + 1)
        clear hO9
        refine seq_store_row rfl rfl rfl (k3) (by kernel_rfl) (by rfl) (by simp [Value.oneCell']) (by rfl) (Gap.row _ (by omega) (by omega) _) ?_; intro K hK; simp only [Act.put, List.setIfInBounds_toArray, List.set_cons_zero, List.set_cons_succ]; refine hK _ _ ?_; clear hK K
        replace k4 := k4.apart (show w.heap.size + 1 + 1 + 1 + 1 ≠ w.heap.size + 1 + 1 + 1 by omega) #[.int .u64 (S : Int), .slice B9 K9.length d9]
        refine seq_store_row rfl rfl rfl (k4) (by kernel_rfl) (by rfl) (by simp [Value.oneCell']) (by rfl) (Gap.row _ (by omega) (by omega) _) ?_; intro K hK; simp only [Act.put, List.setIfInBounds_toArray, List.set_cons_zero, List.set_cons_succ]; refine hK _ _ ?_; clear hK K
        (repeat (first | (refine seq_skip (by rfl) ?_; intro K hK; simp only [Act.put, List.setIfInBounds_toArray, List.set_cons_zero, List.set_cons_succ]; refine hK _ ?_; clear hK K) | (refine seq_skipc (by rfl) ?_; intro K hK; simp only [Act.put, List.setIfInBounds_toArray, List.set_cons_zero, List.set_cons_succ]; refine hK _ ?_; clear hK K) | (refine seq_read (by rfl) (by rfl) ?_; intro K hK; go_big_quiet_op; first | go_big_quiet_on | (refine ⟨_, fun _ _ => rfl, ?_⟩; go_big_quiet_on))))
        refine seq_done ?_
        go_wp2
        (try simp only [Exit.inBlock, Exit.then])
        (try rw [Exit.noGoto_ret])
        refine bodyPost_ret (results_cct rfl _ _ rfl rfl ((k3.row #[.int .u64 (S : Int), .slice B9 K9.length d9]).apart (by omega) #[.int .u64 (P : Int), .int .i64 (M : Int), .int .u64 (G : Int)]) (k4.row #[.int .u64 (P : Int), .int .i64 (M : Int), .int .u64 (G : Int)]) Tryd.underlying25 rfl (by kernel_rfl) Tryd.underlying27 rfl (by kernel_rfl)) rfl ?_
        have hE2 := (HE.out.row (show w.heap.size ≤ w.heap.size + 1 + 1 + 1 by omega) #[.int .u64 (S : Int), .slice B9 K9.length d9]).row (show w.heap.size ≤ w.heap.size + 1 + 1 + 1 + 1 by omega) #[.int .u64 (P : Int), .int .i64 (M : Int), .int .u64 (G : Int)]
        exact ⟨B9, d9, rfl, (hM9.row' hO4 (by omega) (by omega) _).row' hO4 (by omega) (by omega) _, hO5, hE2⟩
    clear h1 h2 k3 k4 h6b h7b r0 HE h3 hEw hins hinl cw hbl hso hsx0 hsx1 HI
    have hpk := hpr k hlt
    have hst := hset k
    have hm1 := hmy k hlt
    have cpu := fun W => rput_c (prt p (l + 1) k) hm1 W
    have hnx := hrn k
    obtain ⟨z, hz⟩ : ∃ z, szN l / 4096 = z := ⟨_, rfl⟩
    rw [hz] at hpk hst cpg
    have hw1 : IntKind.u64.wrap ((k : Int) * (z : Int)) = ((k * z : Nat) : Int) := by
      have : k * z < 17592186044416 := by omega
      rw [IntKind.wrap_u64, ← Int.natCast_mul]; omega
    have hw2 : IntKind.u64.wrap ((p.pp : Int) + ((k * z : Nat) : Int)) = ((p.pp + k * z : Nat) : Int) := by rw [IntKind.wrap_u64, ← Int.natCast_add]; omega
    have hw3 : ((l + 1 : Nat) : Int) - 1 = (l : Int) := by omega
    generalize prt p (l + 1) k = px at *
    generalize p.pp + k * z = X9 at *
    generalize k * z = kz at *
    have h8 := (NX0 wr (ptC p)).2
    have hE1 := (NX0 wr (ptC p)).1
    have zz1 : Blk (wr.alloc (.cells #[.bool false, .bool false, .bool false, .bool false, .bool false, .bool false, .bool false, .bool false, .int .u64 0, .int .u64 0, .int .u64 0] 32)) wr.heap.size 32 #[.bool false, .bool false, .bool false, .bool false, .bool false, .bool false, .bool false, .bool false, .int .u64 0, .int .u64 0, .int .u64 0] := Blk.new _ _ _
    have g3a := g3.ext hE1
    have HX := Lib.hid hE1
    clear hE1
    go_wp2_with (first | (refine wpList_load_part (by rfl) 32 _ rfl rfl g3 (hpx) Tryd.underlying32 rfl (pt_info _) ?_) | ((refine wpList_store_blk rfl 32 _ _ rfl rfl rfl zz1 (pt_info _) (by simp [ptC_size]) (ptC_one _) ?_); clear zz1; generalize (wr.alloc (.cells #[.bool false, .bool false, .bool false, .bool false, .bool false, .bool false, .bool false, .bool false, .int .u64 0, .int .u64 0, .int .u64 0] 32)).setRow wr.heap.size (ptC p) = X at *))
    refine region_tail 10 (by kernel_rfl) (by kernel_rfl) ?_; intro w9 hE
    replace HX := Lib.hid (HX.out.trans hE)
    have h8b := h8.ext hE
    have g3b := g3a.ext hE
    clear hE h8 g3a g3
    have y1 := (g3b.cell 1).trans x1
    have y9 := (h8b.cell 9).trans x9
    have cpg9 := cpg w9
    have HX2 := Lib.hid (HX.out.row (Nat.le_refl wr.heap.size) (ptC px))
    have h8s := h8b.row (ptC px)
    simp only [List.take_succ_cons, List.take_zero, List.drop_succ_cons, List.drop_zero]; repeat still_step
    try rw [hw3]
    rw [show IntKind.i64.wrap (l : Int) = (l : Int) by rcases (by omega : l = 0 ∨ l = 1) with rfl | rfl <;> rfl]
    still_call (Calls.mono (cpg9) fun _ _ h => ⟨h.1, h.2.symm⟩); repeat still_step
    try rw [hw1]
    repeat still_step
    try rw [hw2]
    repeat still_step
    refine wpStill_nil ?_
    clear y1 y9 cpg9 g3b
    go_wp2_with (first | (refine wpList_store_cell rfl 22 _ _ rfl rfl rfl h8b (by simp [ptC_size]) (hst) (by kernel_rfl) rfl rfl ?_) | (refine wpList_load_blk (by rfl) 32 _ rfl rfl h8s Tryd.underlying32 rfl (by kernel_rfl) ?_))
    replace hown := own_ext hown HX2.out
    replace HW := Lib.hid (HW.out.trans HX2.out)
    clear h8b h8s HX HX2
    generalize World.setRow w9 wr.heap.size (ptC px) = w10 at *
    refine (cpu _).mono ?_
    rintro e w11 ⟨rfl, hE⟩
    replace hown := own_ext hown hE
    replace HW := Lib.hid (HW.out.trans hE)
    clear hE cpu
    have hsz2 := HW.out.size
    go_wp2_with (at_builtin; refine wpList_append_run' _ rfl _ _ _ rfl _ _ rfl rfl _ (run_append_one _ W2.heap.size _ _ _ (by assumption) _ _ (by omega) (by omega) _) ?_; rintro v3 w3 ⟨hown3, hB3⟩)
    exact ⟨⟨k + 1, by omega, by go_num, by rw [hnx]; exact hown3, Below.trans HW.out hB3⟩, by simp [intOf]; omega⟩
theorem leafC20 {S P M n t : Nat} (hpk : PoolK S P M) (hn : n ≤ 2) : LeafC S P M n t := by
  refine ⟨fun {L B d s l a} w hM => ?_, fun {L B F d s l a} w hM hlen hfit hF h0 hm hlf ha => ?_⟩
  · refine (rleaf20_no hpk.m w hM).mono ?_
    rintro r w' ⟨rfl, hE⟩
    exact ⟨B, d, rfl, hE⟩
  · have hl2 : l + 1 ≤ 2 := Nat.le_trans (tabs_le hm) hn
    have hs := hfit.tree.lt _ hm
    simp only at hs
    obtain ⟨-, hlt⟩ := hfit.fresh hpk.m hF h0 hpk.sz
    have hw0 : wordL L (512 * s + ixN a (l + 1)) ≠ 0 := fun e => by
      have : leafB (tE L s (ixN a (l + 1))) = false := by unfold tE; rw [e]; unfold leafB getP; rfl
      rw [hlf] at this; cases this
    have hbd := hfit.cl _ hm _ (ixN_lt a (l + 1)) hw0
    have hvl := wordL_lt hfit.rl (512 * s + ixN a (l + 1))
    have hmy1 := may_get hvl
    rw [may_iff] at hmy1
    have hpt : Parts (tE L s (ixN a (l + 1))) l := parts_of hl2 hbd hlf hmy1.2.1
    have cpg : ∀ W, Calls Tryd.prog 37 #[.int .i64 (l : Int)] W fun e w' => e = .returned (.int .u64 ((szN l / 4096 : Nat) : Int)) ∧ W = w' := fun W => by
      have h := rpages_c (l : Int) (by omega) (by omega) W
      rw [show pagI (l : Int) = ((szN l / 4096 : Nat) : Int) by unfold pagI; rw [siz_szN]; rfl] at h
      exact h
    exact rleaf20_yes hpk.p hpk.m hF h0 hl2 ha hs hlen hlf hlt hpk.s8 hpt (hpt.may hmy1.1 hmy1.2.2) cpg w hM
end Go.Proofs.YticbjiddbjgikaaDoor
