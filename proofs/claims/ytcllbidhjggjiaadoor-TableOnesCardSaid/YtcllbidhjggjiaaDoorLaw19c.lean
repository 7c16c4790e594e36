/- TableOnes. -/
import Derived.Test.YtcllbidhjggjiaaDoorLaw19a
import Derived.Test.YtcllbidhjggjiaaDoorMtabd
namespace Go.Proofs.YtcllbidhjggjiaaDoor
open Go.ChangeShapes Go.WideShapes Go.ChangeAt Go.RowKit
set_option linter.unusedVariables false
set_option linter.unusedSimpArgs false
set_option maxRecDepth 10000

theorem pgL_len (L : List (Nat × Nat)) (n t : Nat) : (pgL L n t).length = (pgs L n t 0).length := by unfold pgL; rw [List.length_map]
/-- a page made so is a leaf that isn't bad -/
theorem made_ok {f l : Nat} (hf : f < 65536) (hl : l ≤ 2) : mayB (makeP (f * (szN l / 4096)) ⟨true, false, false, false⟩ false) = true ∧ linkB (makeP (f * (szN l / 4096)) ⟨true, false, false, false⟩ false) = false ∧ leafB (makeP (f * (szN l / 4096)) ⟨true, false, false, false⟩ false) = true ∧ badB (makeP (f * (szN l / 4096)) ⟨true, false, false, false⟩ false) (l : Int) = false := by
  rcases (by omega : l = 0 ∨ l = 1 ∨ l = 2) with rfl | rfl | rfl
  · rw [sz_vals.1]
    unfold mayB linkB leafB badB makeP manyN
    simp
    omega
  · rw [sz_vals.2.1]
    unfold mayB linkB leafB badB makeP manyN
    simp
    omega
  · rw [sz_vals.2.2.1]
    unfold mayB linkB leafB badB makeP manyN
    simp
    omega
theorem zero_ok : mayB zPt = true ∧ linkB zPt = false ∧ leafB zPt = false := by decide +kernel
/-- so many pages more or less -/
theorem ones {S : Nat} {L : List (Nat × Nat)} {n t a s l j : Nat} {p : Pt} (hT : TreeOk S L n t) (h : SpotIn S L n t a s l j) (hp : mayB p = true) (hk : linkB p = false) (hq : linkB (tE L s j) = false) :
    (pgL (stS L s j (putN p)) n t).length + (!badB (tE L s j) (l : Int)).toNat = (pgL L n t).length + (leafB p && !badB p (l : Int)).toNat ∧ frs (stS L s j (putN p)) n t = frs L n t := by
  have hs := st_set (L := L) (s := s) (j := j) h.j5 hp
  have hl : (linkB p && !badB p (l : Int)) = false := by rw [hk]; rfl
  have hm := hs.many h.j5 hT h.m h.go hl 0 0
  have ht := hs.tab hT h.m h.go hl
  rw [pgL_len, pgL_len]
  have e : pgB L s j l = !badB (tE L s j) (l : Int) := by
    unfold pgB
    cases hb : badB (tE L s j) (l : Int)
    · have := link_of hb
      rw [hq] at this
      cases hf : leafB (tE L s j)
      · rw [hf] at this; cases this
      · rfl
    · simp
  rw [e] at hm
  exact ⟨hm, by unfold frs; rw [ht]⟩
theorem pm_r : Tryd.prog.built 47 [(0, .bool true)] = some (pmC ⟨true, false, false, false⟩) := by rw [pmC_def]; kernel_rfl
theorem pt_z : Tryd.prog.built 53 [] = some (ptC zPt) := by unfold zPt; rw [ptC_def]; kernel_rfl
attribute [local irreducible] World.setRow World.alloc Blk
set_option maxRecDepth 100000 in
set_option maxHeartbeats 8000000 in
theorem TableOnes_w {T : World → Prop} (C : TableC T) (caw : Awk19 T) (S : Nat) (B : Option Addr) (L : List (Nat × Nat)) (d t : Nat) (l : Int) (a f : Nat) (hS : S < 18446744073709551616) (hL : IsCells L) (ht : t < 18446744073709551616) (hl : -9223372036854775808 ≤ l ∧ l ≤ 9223372036854775807) (a1 : a < 18446744073709551616) (f1 : f < 65536) (w : World) (hm : RowL w B L d) (hT : T w) :
    Calls Tryd.prog 7 #[.agg #[.int .u64 (S : Int), .slice B L.length d], .int .u64 (t : Int), .int .i64 l, .int .u64 (a : Int), .int .u16 (f : Int)] w fun r w' => r = .returned (.bool true) ∧ Ext w w' := by
  have h1 := Blk.new w 25 #[.int .u64 (S : Int), .slice B L.length d]
  have HE := Lib.hid ((Ext.refl w).alloc (.cells #[.int .u64 (S : Int), .slice B L.length d] 25))
  have hTE : ∀ W : World, Ext w W → T W := fun W e => C.ext _ _ hT e
  have hmr : ∀ W : World, Ext w W → RowL W B L d := fun W e => hm.ext e
  have cft := fun W (r : RowL W B L d) => fits19_c S B L d t l hS hL ht W r
  have cia := fun W => ris5_c (a : Int) (by omega) (by omega) W
  unfold Awk19 at caw
  cases hf : fitR S L t l
  · rw [hf] at cft
    clear cia hf
    go_enter Tryd.func7, Tryd.ntmps7
    go_wp2_with fail
    generalize hW1 : w.alloc (.cells #[.int .u64 (S : Int), .slice B L.length d] 25) = W1 at *
    clear hW1
    go_wp2_with (fail); refine (caw _ (hTE _ HE.out)).mono ?_; rintro e w' ⟨rfl, hE⟩; (try replace hb := hb.ext hE); (try replace hm := hm.ext hE); (try replace h1 := h1.ext hE); (try replace h2 := h2.ext hE); (try replace h3 := h3.ext hE); (try replace h4 := h4.ext hE); (try replace h5 := h5.ext hE); (try replace h6 := h6.ext hE); (try replace hN := hN.ext hE); (try replace HE := Lib.hid (HE.out.trans hE)); (try replace r0 := r0.ext hE); (try replace r1 := r1.ext hE); (try replace r2 := r2.ext hE); (try replace r3 := r3.ext hE); (try replace r4 := r4.ext hE); (try replace r5 := r5.ext hE); (try replace r6 := r6.ext hE); clear hE
    go_wp2_with ((refine wpList_load_blk (by rfl) 25 _ rfl rfl h1 Tryd.underlying25 rfl (by kernel_rfl) ?_)); refine (cft _ (hmr _ HE.out)).mono ?_; rintro e w' ⟨rfl, hE⟩; (try replace hb := hb.ext hE); (try replace hm := hm.ext hE); (try replace h1 := h1.ext hE); (try replace h2 := h2.ext hE); (try replace h3 := h3.ext hE); (try replace h4 := h4.ext hE); (try replace h5 := h5.ext hE); (try replace h6 := h6.ext hE); (try replace hN := hN.ext hE); (try replace HE := Lib.hid (HE.out.trans hE)); (try replace r0 := r0.ext hE); (try replace r1 := r1.ext hE); (try replace r2 := r2.ext hE); (try replace r3 := r3.ext hE); (try replace r4 := r4.ext hE); (try replace r5 := r5.ext hE); (try replace r6 := r6.ext hE); clear hE
    clear cft
    clear h1
    go_wp2_with fail
    refine (caw _ (hTE _ HE.out)).mono ?_
    rintro e wz ⟨rfl, hE⟩
    replace HE := Lib.hid (HE.out.trans hE)
    clear hE
    go_wp2
    go_ret
    exact ⟨rfl, HE.out⟩
  rw [hf] at cft
  cases hva : vaB (a : Int)
  · rw [hva] at cia
    clear hf hva
    go_enter Tryd.func7, Tryd.ntmps7
    go_wp2_with fail
    generalize hW1 : w.alloc (.cells #[.int .u64 (S : Int), .slice B L.length d] 25) = W1 at *
    clear hW1
    go_wp2_with (fail); refine (caw _ (hTE _ HE.out)).mono ?_; rintro e w' ⟨rfl, hE⟩; (try replace hb := hb.ext hE); (try replace hm := hm.ext hE); (try replace h1 := h1.ext hE); (try replace h2 := h2.ext hE); (try replace h3 := h3.ext hE); (try replace h4 := h4.ext hE); (try replace h5 := h5.ext hE); (try replace h6 := h6.ext hE); (try replace hN := hN.ext hE); (try replace HE := Lib.hid (HE.out.trans hE)); (try replace r0 := r0.ext hE); (try replace r1 := r1.ext hE); (try replace r2 := r2.ext hE); (try replace r3 := r3.ext hE); (try replace r4 := r4.ext hE); (try replace r5 := r5.ext hE); (try replace r6 := r6.ext hE); clear hE
    go_wp2_with ((refine wpList_load_blk (by rfl) 25 _ rfl rfl h1 Tryd.underlying25 rfl (by kernel_rfl) ?_)); refine (cft _ (hmr _ HE.out)).mono ?_; rintro e w' ⟨rfl, hE⟩; (try replace hb := hb.ext hE); (try replace hm := hm.ext hE); (try replace h1 := h1.ext hE); (try replace h2 := h2.ext hE); (try replace h3 := h3.ext hE); (try replace h4 := h4.ext hE); (try replace h5 := h5.ext hE); (try replace h6 := h6.ext hE); (try replace hN := hN.ext hE); (try replace HE := Lib.hid (HE.out.trans hE)); (try replace r0 := r0.ext hE); (try replace r1 := r1.ext hE); (try replace r2 := r2.ext hE); (try replace r3 := r3.ext hE); (try replace r4 := r4.ext hE); (try replace r5 := r5.ext hE); (try replace r6 := r6.ext hE); clear hE
    clear cft
    go_wp2_with (first | (go_at_call 20; (with_reducible refine (cia _).mono ?_); rintro e wq ⟨rfl, rfl⟩) | (refine wpList_load_blk (by rfl) 25 _ rfl rfl h1 Tryd.underlying25 rfl (by kernel_rfl) ?_))
    refine (caw _ (hTE _ HE.out)).mono ?_
    rintro e wz ⟨rfl, hE⟩
    replace HE := Lib.hid (HE.out.trans hE)
    clear hE
    go_wp2
    go_ret
    exact ⟨rfl, HE.out⟩
  rw [hva] at cia
  obtain ⟨hrl, hso, hlen, n, rfl, hn2, hTr⟩ := fit19 hf hL
  obtain ⟨s, lv, j, hsp⟩ := spot_in hTr a
  have hMm : ∀ W : World, Ext w W → Mem W S B L d := fun W e => ⟨hm.ext e, hrl, hso, by omega⟩
  have hlv : lv ≤ 2 := Nat.le_trans hsp.le hn2
  have cra := fun W (m : Mem W S B L d) k => C.reach W m hn2 hTr hva a1 k
  have cpg := fun W (m : Mem W S B L d) k => C.pages W m hn2 hTr k
  have clq := fun W => rlink_c (tE L s j) W
  have hs1 : (spotN L n t a).lv = (lv : Int) := by rw [hsp.e]
  have hs2 : (spotN L n t a).pt = tE L s j := by rw [hsp.e]
  have hN := pgL_few hTr
  have hpt := sptC_pt (spotN L n t a)
  rw [hs2] at hpt
  cases hlk : linkB (tE L s j)
  case true =>
    rw [hlk] at clq
    clear hf hva hlk hsp hTr hrl hso hlen
    generalize spotN L n t a = sA at *
    generalize tE L s j = q at *
    generalize (pgL L n t) = PL at *
    go_enter Tryd.func7, Tryd.ntmps7
    go_wp2_with fail
    generalize hW1 : w.alloc (.cells #[.int .u64 (S : Int), .slice B L.length d] 25) = W1 at *
    clear hW1
    go_wp2_with (fail); refine (caw _ (hTE _ HE.out)).mono ?_; rintro e w' ⟨rfl, hE⟩; (try replace hb := hb.ext hE); (try replace hm := hm.ext hE); (try replace h1 := h1.ext hE); (try replace h2 := h2.ext hE); (try replace h3 := h3.ext hE); (try replace h4 := h4.ext hE); (try replace h5 := h5.ext hE); (try replace h6 := h6.ext hE); (try replace hN := hN.ext hE); (try replace HE := Lib.hid (HE.out.trans hE)); (try replace r0 := r0.ext hE); (try replace r1 := r1.ext hE); (try replace r2 := r2.ext hE); (try replace r3 := r3.ext hE); (try replace r4 := r4.ext hE); (try replace r5 := r5.ext hE); (try replace r6 := r6.ext hE); clear hE
    go_wp2_with ((refine wpList_load_blk (by rfl) 25 _ rfl rfl h1 Tryd.underlying25 rfl (by kernel_rfl) ?_)); refine (cft _ (hmr _ HE.out)).mono ?_; rintro e w' ⟨rfl, hE⟩; (try replace hb := hb.ext hE); (try replace hm := hm.ext hE); (try replace h1 := h1.ext hE); (try replace h2 := h2.ext hE); (try replace h3 := h3.ext hE); (try replace h4 := h4.ext hE); (try replace h5 := h5.ext hE); (try replace h6 := h6.ext hE); (try replace hN := hN.ext hE); (try replace HE := Lib.hid (HE.out.trans hE)); (try replace r0 := r0.ext hE); (try replace r1 := r1.ext hE); (try replace r2 := r2.ext hE); (try replace r3 := r3.ext hE); (try replace r4 := r4.ext hE); (try replace r5 := r5.ext hE); (try replace r6 := r6.ext hE); clear hE
    clear cft
    go_wp2_with (first | (go_at_call 20; (with_reducible refine (cia _).mono ?_); rintro e wq ⟨rfl, rfl⟩) | (refine wpList_load_blk (by rfl) 25 _ rfl rfl h1 Tryd.underlying25 rfl (by kernel_rfl) ?_))
    refine (cra _ (hMm _ HE.out) (hTE _ HE.out)).mono ?_
    rintro e w' ⟨rfl, hE⟩
    (try replace hb := hb.ext hE); (try replace hm := hm.ext hE); (try replace h1 := h1.ext hE); (try replace h2 := h2.ext hE); (try replace h3 := h3.ext hE); (try replace h4 := h4.ext hE); (try replace h5 := h5.ext hE); (try replace h6 := h6.ext hE); (try replace hN := hN.ext hE); (try replace HE := Lib.hid (HE.out.trans hE)); (try replace r0 := r0.ext hE); (try replace r1 := r1.ext hE); (try replace r2 := r2.ext hE); (try replace r3 := r3.ext hE); (try replace r4 := r4.ext hE); (try replace r5 := r5.ext hE); (try replace r6 := r6.ext hE)
    clear hE cra
    have zz1 : Blk (w'.alloc (.cells #[.int .u64 0, .int .i64 0, .bool false, .bool false, .bool false, .bool false, .bool false, .bool false, .bool false, .bool false, .int .u64 0, .int .u64 0, .int .u64 0] 65)) w'.heap.size 65 #[.int .u64 0, .int .i64 0, .bool false, .bool false, .bool false, .bool false, .bool false, .bool false, .bool false, .bool false, .int .u64 0, .int .u64 0, .int .u64 0] := Blk.new _ _ _; have hE := ((Ext.refl w').alloc (.cells #[.int .u64 0, .int .i64 0, .bool false, .bool false, .bool false, .bool false, .bool false, .bool false, .bool false, .bool false, .int .u64 0, .int .u64 0, .int .u64 0] 65)).row (Nat.le_refl w'.heap.size) (sptC sA); (try replace hb := hb.ext hE); (try replace hm := hm.ext hE); (try replace h1 := h1.ext hE); (try replace h2 := h2.ext hE); (try replace h3 := h3.ext hE); (try replace h4 := h4.ext hE); (try replace h5 := h5.ext hE); (try replace h6 := h6.ext hE); (try replace hN := hN.ext hE); (try replace HE := Lib.hid (HE.out.trans hE)); (try replace r0 := r0.ext hE); (try replace r1 := r1.ext hE); (try replace r2 := r2.ext hE); (try replace r3 := r3.ext hE); (try replace r4 := r4.ext hE); (try replace r5 := r5.ext hE); (try replace r6 := r6.ext hE); clear hE; have h3 := zz1.row (sptC sA)
    go_wp2_with (first | ((refine wpList_store_blk rfl 65 _ _ rfl rfl rfl zz1 (spt_info _) (by simp [sptC_size]) (sptC_one _) ?_); clear zz1; generalize (w'.alloc (.cells #[.int .u64 0, .int .i64 0, .bool false, .bool false, .bool false, .bool false, .bool false, .bool false, .bool false, .bool false, .int .u64 0, .int .u64 0, .int .u64 0] 65)).setRow w'.heap.size (sptC sA) = X at *) | (refine wpList_load_blk (by rfl) 25 _ rfl rfl h1 Tryd.underlying25 rfl (by kernel_rfl) ?_))
    refine (cpg _ (hMm _ HE.out) (hTE _ HE.out)).mono ?_
    rintro e w2 ⟨AP, cP, rfl, -, -, hE⟩
    (try replace hb := hb.ext hE); (try replace hm := hm.ext hE); (try replace h1 := h1.ext hE); (try replace h2 := h2.ext hE); (try replace h3 := h3.ext hE); (try replace h4 := h4.ext hE); (try replace h5 := h5.ext hE); (try replace h6 := h6.ext hE); (try replace hN := hN.ext hE); (try replace HE := Lib.hid (HE.out.trans hE)); (try replace r0 := r0.ext hE); (try replace r1 := r1.ext hE); (try replace r2 := r2.ext hE); (try replace r3 := r3.ext hE); (try replace r4 := r4.ext hE); (try replace r5 := r5.ext hE); (try replace r6 := r6.ext hE)
    clear hE cpg
    go_wp2_with (refine wpList_load_part (by rfl) 53 _ rfl rfl h3 (hpt) Tryd.underlying53 rfl (pt_info _) ?_)
    refine (clq _).mono ?_
    rintro e w3 ⟨rfl, hE⟩
    replace HE := Lib.hid (HE.out.trans hE)
    clear hE clq h1 h3
    go_wp2
    go_ret
    exact ⟨rfl, HE.out⟩
  rw [hlk] at clq
  have hP := made_ok f1 hlv
  have hZ := zero_ok
  obtain ⟨F, hF⟩ : ∃ F, f * (szN lv / 4096) = F := ⟨_, rfl⟩
  have hFl : F < 17592186044416 := by
    have hk : szN lv / 4096 ≤ 262144 := by
      rcases (by omega : lv = 0 ∨ lv = 1 ∨ lv = 2) with rfl | rfl | rfl
      · rw [sz_vals.1]; decide
      · rw [sz_vals.2.1]; decide
      · rw [sz_vals.2.2.1]; decide
    have : f * (szN lv / 4096) ≤ 65536 * 262144 := Nat.mul_le_mul (by omega) hk
    omega
  have hFw : IntKind.u64.wrap ((f : Int) * ((szN lv : Int) / 4096)) = (F : Int) := by
    rw [show ((szN lv : Int) / 4096) = ((szN lv / 4096 : Nat) : Int) by omega, ← Int.natCast_mul, hF, IntKind.wrap_u64]
    omega
  have hFv : IntKind.u64.wrap ((szN lv : Int) / 4096) = (szN lv : Int) / 4096 := by
    have : szN lv ≤ 1073741824 := by
      rcases (by omega : lv = 0 ∨ lv = 1 ∨ lv = 2) with rfl | rfl | rfl
      · rw [sz_vals.1]; decide
      · rw [sz_vals.2.1]; decide
      · rw [sz_vals.2.2.1]; decide
    rw [IntKind.wrap_u64]; omega
  rw [hF] at hP
  have csz := fun W => rsize5_c (lv : Int) (by omega) (by omega) W
  rw [siz_szN] at csz
  have cmk := fun W => rmake_c F ⟨true, false, false, false⟩ false W
  have hPok : (makeP F ⟨true, false, false, false⟩ false).ok := by
    unfold makeP Pt.ok
    refine ⟨?_, ?_, ?_⟩ <;> simp <;> omega
  have hZok : zPt.ok := by unfold zPt Pt.ok; decide
  generalize makeP F ⟨true, false, false, false⟩ false = P at *
  have hwA := wrote hTr hsp hP.1 (by rw [hP.2.1]; rfl)
  have hwB := wrote hTr hsp hZ.1 (by rw [hZ.2.1]; rfl)
  have oA := ones hTr hsp hP.1 hP.2.1 hlk
  have oB := ones hTr hsp hZ.1 hZ.2.1 hlk
  rw [hP.2.2.1, hP.2.2.2] at oA
  rw [hZ.2.2] at oB
  have cwa := fun W (m : Mem W S B L d) k => C.with_ W m (by omega) hn2 hTr hva a1 hsp hP.1 hPok k
  have cwb := fun W (m : Mem W S B L d) k => C.with_ W m (by omega) hn2 hTr hva a1 hsp hZ.1 hZok k
  have cbd := fun W => rbad_c (tE L s j) (lv : Int) (by omega) (by omega) W
  have cpa := fun W B' d' (m : Mem W S B' (stS L s j (putN P)) d') k => C.pages W m hn2 hwA.tree k
  have cpb := fun W B' d' (m : Mem W S B' (stS L s j (putN zPt)) d') k => C.pages W m hn2 hwB.tree k
  have cfm := fun W (m : Mem W S B L d) k => C.frames W m hn2 hTr k
  have cfa := fun W B' d' (m : Mem W S B' (stS L s j (putN P)) d') k => C.frames W m hn2 hwA.tree k
  have cfb := fun W B' d' (m : Mem W S B' (stS L s j (putN zPt)) d') k => C.frames W m hn2 hwB.tree k
  rw [oA.2] at cfa
  rw [oB.2] at cfb
  have OA := Lib.hid oA.1
  have OB := Lib.hid oB.1
  clear oA oB
  have cin := fun A c A' c' W (r1 : RowV KU W A (frs L n t) c) (r2 : RowV KU W A' (frs L n t) c') => rints19_c A (frs L n t) c A' (frs L n t) c' W r1 r2
  rw [decide_eq_true rfl] at cin
  have hpz := pt_z
  unfold MdT at cwa cwb
  have few : ∀ {K : List (Nat × Nat)} {W : World} {r : Ending} {w' : World}, (∃ A c, r = .returned (.slice A (pgL K n t).length c) ∧ RowV KG w' A (pgL K n t) c ∧ (∀ a, A = some a → W.heap.size ≤ a.block) ∧ Ext W w') → ∃ A c, r = .returned (.slice A (pgL K n t).length c) ∧ Ext W w' := fun ⟨A, c, h1, _, _, h2⟩ => ⟨A, c, h1, h2⟩
  replace cpg := fun W m k => (cpg W m k).mono fun r w' h => few h
  replace cpa := fun W B' d' m k => (cpa W B' d' m k).mono fun r w' h => few h
  replace cpb := fun W B' d' m k => (cpb W B' d' m k).mono fun r w' h => few h
  clear few
  clear hf hva hlk hsp hTr hrl hso hlen hP hZ hPok hZok hwA hwB hF hs2
  generalize stS L s j (putN P) = KA at *
  generalize stS L s j (putN zPt) = KB at *
  generalize spotN L n t a = sA at *
  generalize tE L s j = q at *
  generalize zPt = Z at *
  generalize frs L n t = FL at *
  generalize (pgL L n t).length = nP at *
  generalize (pgL KA n t).length = nA at *
  generalize (pgL KB n t).length = nB at *
  generalize szN lv = sz at *
  go_enter Tryd.func7, Tryd.ntmps7
  go_wp2_with fail
  generalize hW1 : w.alloc (.cells #[.int .u64 (S : Int), .slice B L.length d] 25) = W1 at *
  clear hW1
  go_wp2_with (fail); refine (caw _ (hTE _ HE.out)).mono ?_; rintro e w' ⟨rfl, hE⟩; (try replace hb := hb.ext hE); (try replace hm := hm.ext hE); (try replace h1 := h1.ext hE); (try replace h2 := h2.ext hE); (try replace h3 := h3.ext hE); (try replace h4 := h4.ext hE); (try replace h5 := h5.ext hE); (try replace h6 := h6.ext hE); (try replace hN := hN.ext hE); (try replace HE := Lib.hid (HE.out.trans hE)); (try replace r0 := r0.ext hE); (try replace r1 := r1.ext hE); (try replace r2 := r2.ext hE); (try replace r3 := r3.ext hE); (try replace r4 := r4.ext hE); (try replace r5 := r5.ext hE); (try replace r6 := r6.ext hE); clear hE
  go_wp2_with ((refine wpList_load_blk (by rfl) 25 _ rfl rfl h1 Tryd.underlying25 rfl (by kernel_rfl) ?_)); refine (cft _ (hmr _ HE.out)).mono ?_; rintro e w' ⟨rfl, hE⟩; (try replace hb := hb.ext hE); (try replace hm := hm.ext hE); (try replace h1 := h1.ext hE); (try replace h2 := h2.ext hE); (try replace h3 := h3.ext hE); (try replace h4 := h4.ext hE); (try replace h5 := h5.ext hE); (try replace h6 := h6.ext hE); (try replace hN := hN.ext hE); (try replace HE := Lib.hid (HE.out.trans hE)); (try replace r0 := r0.ext hE); (try replace r1 := r1.ext hE); (try replace r2 := r2.ext hE); (try replace r3 := r3.ext hE); (try replace r4 := r4.ext hE); (try replace r5 := r5.ext hE); (try replace r6 := r6.ext hE); clear hE
  clear cft
  go_wp2_with (first | (go_at_call 20; (with_reducible refine (cia _).mono ?_); rintro e wq ⟨rfl, rfl⟩) | (refine wpList_load_blk (by rfl) 25 _ rfl rfl h1 Tryd.underlying25 rfl (by kernel_rfl) ?_))
  refine (cra _ (hMm _ HE.out) (hTE _ HE.out)).mono ?_
  rintro e w' ⟨rfl, hE⟩
  (try replace hb := hb.ext hE); (try replace hm := hm.ext hE); (try replace h1 := h1.ext hE); (try replace h2 := h2.ext hE); (try replace h3 := h3.ext hE); (try replace h4 := h4.ext hE); (try replace h5 := h5.ext hE); (try replace h6 := h6.ext hE); (try replace hN := hN.ext hE); (try replace HE := Lib.hid (HE.out.trans hE)); (try replace r0 := r0.ext hE); (try replace r1 := r1.ext hE); (try replace r2 := r2.ext hE); (try replace r3 := r3.ext hE); (try replace r4 := r4.ext hE); (try replace r5 := r5.ext hE); (try replace r6 := r6.ext hE)
  clear hE cra
  have zz1 : Blk (w'.alloc (.cells #[.int .u64 0, .int .i64 0, .bool false, .bool false, .bool false, .bool false, .bool false, .bool false, .bool false, .bool false, .int .u64 0, .int .u64 0, .int .u64 0] 65)) w'.heap.size 65 #[.int .u64 0, .int .i64 0, .bool false, .bool false, .bool false, .bool false, .bool false, .bool false, .bool false, .bool false, .int .u64 0, .int .u64 0, .int .u64 0] := Blk.new _ _ _; have hE := ((Ext.refl w').alloc (.cells #[.int .u64 0, .int .i64 0, .bool false, .bool false, .bool false, .bool false, .bool false, .bool false, .bool false, .bool false, .int .u64 0, .int .u64 0, .int .u64 0] 65)).row (Nat.le_refl w'.heap.size) (sptC sA); (try replace hb := hb.ext hE); (try replace hm := hm.ext hE); (try replace h1 := h1.ext hE); (try replace h2 := h2.ext hE); (try replace h3 := h3.ext hE); (try replace h4 := h4.ext hE); (try replace h5 := h5.ext hE); (try replace h6 := h6.ext hE); (try replace hN := hN.ext hE); (try replace HE := Lib.hid (HE.out.trans hE)); (try replace r0 := r0.ext hE); (try replace r1 := r1.ext hE); (try replace r2 := r2.ext hE); (try replace r3 := r3.ext hE); (try replace r4 := r4.ext hE); (try replace r5 := r5.ext hE); (try replace r6 := r6.ext hE); clear hE; have h3 := zz1.row (sptC sA)
  go_wp2_with (first | ((refine wpList_store_blk rfl 65 _ _ rfl rfl rfl zz1 (spt_info _) (by simp [sptC_size]) (sptC_one _) ?_); clear zz1; generalize (w'.alloc (.cells #[.int .u64 0, .int .i64 0, .bool false, .bool false, .bool false, .bool false, .bool false, .bool false, .bool false, .bool false, .int .u64 0, .int .u64 0, .int .u64 0] 65)).setRow w'.heap.size (sptC sA) = X at *) | (refine wpList_load_blk (by rfl) 25 _ rfl rfl h1 Tryd.underlying25 rfl (by kernel_rfl) ?_))
  refine (cpg _ (hMm _ HE.out) (hTE _ HE.out)).mono ?_
  rintro e w2 ⟨AP, cP, rfl, hE⟩
  (try replace hb := hb.ext hE); (try replace hm := hm.ext hE); (try replace h1 := h1.ext hE); (try replace h2 := h2.ext hE); (try replace h3 := h3.ext hE); (try replace h4 := h4.ext hE); (try replace h5 := h5.ext hE); (try replace h6 := h6.ext hE); (try replace hN := hN.ext hE); (try replace HE := Lib.hid (HE.out.trans hE)); (try replace r0 := r0.ext hE); (try replace r1 := r1.ext hE); (try replace r2 := r2.ext hE); (try replace r3 := r3.ext hE); (try replace r4 := r4.ext hE); (try replace r5 := r5.ext hE); (try replace r6 := r6.ext hE)
  clear hE cpg
  go_wp2_with (refine wpList_load_part (by rfl) 53 _ rfl rfl h3 (hpt) Tryd.underlying53 rfl (pt_info _) ?_)
  refine (clq _).mono ?_
  rintro e w3 ⟨rfl, hE⟩
  (try replace hb := hb.ext hE); (try replace hm := hm.ext hE); (try replace h1 := h1.ext hE); (try replace h2 := h2.ext hE); (try replace h3 := h3.ext hE); (try replace h4 := h4.ext hE); (try replace h5 := h5.ext hE); (try replace h6 := h6.ext hE); (try replace hN := hN.ext hE); (try replace HE := Lib.hid (HE.out.trans hE)); (try replace r0 := r0.ext hE); (try replace r1 := r1.ext hE); (try replace r2 := r2.ext hE); (try replace r3 := r3.ext hE); (try replace r4 := r4.ext hE); (try replace r5 := r5.ext hE); (try replace r6 := r6.ext hE)
  clear hE clq
  have x3 := h3.spt_lv
  rw [hs1] at x3
  go_wp2_with (first | (go_at_call 23; (with_reducible refine (csz _).mono ?_); rintro e wq ⟨rfl, rfl⟩) | (refine wpList_build_as (by rfl) rfl (pm_r) ?_))
  refine (cmk _).mono ?_
  rintro e w4 ⟨rfl, hE⟩
  (try replace hb := hb.ext hE); (try replace hm := hm.ext hE); (try replace h1 := h1.ext hE); (try replace h2 := h2.ext hE); (try replace h3 := h3.ext hE); (try replace h4 := h4.ext hE); (try replace h5 := h5.ext hE); (try replace h6 := h6.ext hE); (try replace hN := hN.ext hE); (try replace HE := Lib.hid (HE.out.trans hE)); (try replace r0 := r0.ext hE); (try replace r1 := r1.ext hE); (try replace r2 := r2.ext hE); (try replace r3 := r3.ext hE); (try replace r4 := r4.ext hE); (try replace r5 := r5.ext hE); (try replace r6 := r6.ext hE)
  replace x3 := ext_cell hE x3
  clear hE cmk csz hFw hFv
  have zz1 : Blk (w4.alloc (.cells #[.bool false, .bool false, .bool false, .bool false, .bool false, .bool false, .bool false, .bool false, .int .u64 0, .int .u64 0, .int .u64 0] 53)) w4.heap.size 53 #[.bool false, .bool false, .bool false, .bool false, .bool false, .bool false, .bool false, .bool false, .int .u64 0, .int .u64 0, .int .u64 0] := Blk.new _ _ _; have hE := ((Ext.refl w4).alloc (.cells #[.bool false, .bool false, .bool false, .bool false, .bool false, .bool false, .bool false, .bool false, .int .u64 0, .int .u64 0, .int .u64 0] 53)).row (Nat.le_refl w4.heap.size) (ptC P); (try replace hb := hb.ext hE); (try replace hm := hm.ext hE); (try replace h1 := h1.ext hE); (try replace h2 := h2.ext hE); (try replace h3 := h3.ext hE); (try replace h4 := h4.ext hE); (try replace h5 := h5.ext hE); (try replace h6 := h6.ext hE); (try replace hN := hN.ext hE); (try replace HE := Lib.hid (HE.out.trans hE)); (try replace r0 := r0.ext hE); (try replace r1 := r1.ext hE); (try replace r2 := r2.ext hE); (try replace r3 := r3.ext hE); (try replace r4 := r4.ext hE); (try replace r5 := r5.ext hE); (try replace r6 := r6.ext hE); clear hE; have h4 := zz1.row (ptC P)
  go_wp2_with (first | ((refine wpList_store_blk rfl 53 _ _ rfl rfl rfl zz1 (pt_info _) (by simp [ptC_size]) (ptC_one _) ?_); clear zz1; generalize (w4.alloc (.cells #[.bool false, .bool false, .bool false, .bool false, .bool false, .bool false, .bool false, .bool false, .int .u64 0, .int .u64 0, .int .u64 0] 53)).setRow w4.heap.size (ptC P) = X at *) | (refine wpList_load_blk (by rfl) 25 _ rfl rfl h1 Tryd.underlying25 rfl (by kernel_rfl) ?_) | (refine wpList_load_blk (by rfl) 65 _ rfl rfl h3 Tryd.underlying65 rfl (by kernel_rfl) ?_) | (refine wpList_load_blk (by rfl) 53 _ rfl rfl h4 Tryd.underlying53 rfl (by kernel_rfl) ?_))
  refine (cwa _ (hMm _ HE.out) (hTE _ HE.out)).mono ?_
  rintro e w5 ⟨B5, d5, rfl, hN5, hE⟩
  (try replace hb := hb.ext hE); (try replace hm := hm.ext hE); (try replace h1 := h1.ext hE); (try replace h2 := h2.ext hE); (try replace h3 := h3.ext hE); (try replace h4 := h4.ext hE); (try replace h5 := h5.ext hE); (try replace h6 := h6.ext hE); (try replace hN := hN.ext hE); (try replace HE := Lib.hid (HE.out.trans hE)); (try replace r0 := r0.ext hE); (try replace r1 := r1.ext hE); (try replace r2 := r2.ext hE); (try replace r3 := r3.ext hE); (try replace r4 := r4.ext hE); (try replace r5 := r5.ext hE); (try replace r6 := r6.ext hE)
  replace x3 := h3.spt_lv
  clear hE cwa h4
  obtain ⟨zz1, hE, h5⟩ := nm1 w5 #[.int .u64 (S : Int), .slice B5 KA.length d5]
  have h1o := h1
  (try replace hb := hb.ext hE); (try replace hm := hm.ext hE); (try replace h1 := h1.ext hE); (try replace h2 := h2.ext hE); (try replace h3 := h3.ext hE); (try replace h4 := h4.ext hE); (try replace h5 := h5.ext hE); (try replace h6 := h6.ext hE); (try replace hN := hN.ext hE); (try replace HE := Lib.hid (HE.out.trans hE)); (try replace r0 := r0.ext hE); (try replace r1 := r1.ext hE); (try replace r2 := r2.ext hE); (try replace r3 := r3.ext hE); (try replace r4 := r4.ext hE); (try replace r5 := r5.ext hE); (try replace r6 := r6.ext hE)
  replace hN5 := hN5.ext hE
  clear hE h1o
  go_wp2_with (first | ((refine wpList_store_blk rfl 25 _ _ rfl rfl rfl zz1 (by kernel_rfl) (by rfl) (by simp [Value.oneCell']) ?_); clear zz1; generalize (w5.alloc (.cells #[.int .u64 0, .slice none 0 0] 25)).setRow w5.heap.size #[.int .u64 (S : Int), .slice B5 KA.length d5] = X5 at *) | (refine wpList_load_blk (by rfl) 25 _ rfl rfl h1 Tryd.underlying25 rfl (by kernel_rfl) ?_) | (refine wpList_load_blk (by rfl) 65 _ rfl rfl h3 Tryd.underlying65 rfl (by kernel_rfl) ?_) | (refine wpList_build_as (by rfl) rfl (hpz) ?_))
  refine (cwb _ (hMm _ HE.out) (hTE _ HE.out)).mono ?_
  rintro e w6 ⟨B6, d6, rfl, hN6, hE⟩
  (try replace hb := hb.ext hE); (try replace hm := hm.ext hE); (try replace h1 := h1.ext hE); (try replace h2 := h2.ext hE); (try replace h3 := h3.ext hE); (try replace h4 := h4.ext hE); (try replace h5 := h5.ext hE); (try replace h6 := h6.ext hE); (try replace hN := hN.ext hE); (try replace HE := Lib.hid (HE.out.trans hE)); (try replace r0 := r0.ext hE); (try replace r1 := r1.ext hE); (try replace r2 := r2.ext hE); (try replace r3 := r3.ext hE); (try replace r4 := r4.ext hE); (try replace r5 := r5.ext hE); (try replace r6 := r6.ext hE)
  replace hN5 := hN5.ext hE
  clear hE cwb
  obtain ⟨zz1, hE, h6⟩ := nm1 w6 #[.int .u64 (S : Int), .slice B6 KB.length d6]
  (try replace hb := hb.ext hE); (try replace hm := hm.ext hE); (try replace h1 := h1.ext hE); (try replace h2 := h2.ext hE); (try replace h3 := h3.ext hE); (try replace h4 := h4.ext hE); (try replace h5 := h5.ext hE); (try replace h6 := h6.ext hE); (try replace hN := hN.ext hE); (try replace HE := Lib.hid (HE.out.trans hE)); (try replace r0 := r0.ext hE); (try replace r1 := r1.ext hE); (try replace r2 := r2.ext hE); (try replace r3 := r3.ext hE); (try replace r4 := r4.ext hE); (try replace r5 := r5.ext hE); (try replace r6 := r6.ext hE)
  replace hN5 := hN5.ext hE
  replace hN6 := hN6.ext hE
  clear hE
  replace x3 := h3.spt_lv
  rw [hs1] at x3
  go_wp2_with (first | ((refine wpList_store_blk rfl 25 _ _ rfl rfl rfl zz1 (by kernel_rfl) (by rfl) (by simp [Value.oneCell']) ?_); clear zz1; generalize (w6.alloc (.cells #[.int .u64 0, .slice none 0 0] 25)).setRow w6.heap.size #[.int .u64 (S : Int), .slice B6 KB.length d6] = X6 at *) | (refine wpList_load_part (by rfl) 53 _ rfl rfl h3 (hpt) Tryd.underlying53 rfl (pt_info _) ?_))
  refine (cbd _).mono ?_
  rintro e w7 ⟨rfl, hE⟩
  (try replace hb := hb.ext hE); (try replace hm := hm.ext hE); (try replace h1 := h1.ext hE); (try replace h2 := h2.ext hE); (try replace h3 := h3.ext hE); (try replace h4 := h4.ext hE); (try replace h5 := h5.ext hE); (try replace h6 := h6.ext hE); (try replace hN := hN.ext hE); (try replace HE := Lib.hid (HE.out.trans hE)); (try replace r0 := r0.ext hE); (try replace r1 := r1.ext hE); (try replace r2 := r2.ext hE); (try replace r3 := r3.ext hE); (try replace r4 := r4.ext hE); (try replace r5 := r5.ext hE); (try replace r6 := r6.ext hE)
  replace hN5 := hN5.ext hE
  replace hN6 := hN6.ext hE
  clear hE cbd x3 h3
  cases hb : badB q (lv : Int)
  · rw [hb] at OA OB
    obtain rfl : nA = nP := by have := OA.out; simp at *; omega
    have e0 : nA = nB + 1 := by have := OB.out; simp at *; omega
    have e1 : ((nB : Int) != (nA : Int) - 1) = false := by simp; omega
    have e2 : ((nA : Int) != (nA : Int) + 1 - 1) = false := by simp
    clear OA OB hb e0
    go_wp2_with (refine wpList_load_blk (by rfl) 25 _ rfl rfl h5 Tryd.underlying25 rfl (by kernel_rfl) ?_)
    refine (cpa _ _ _ hN5 (hTE _ HE.out)).mono ?_
    rintro e wa ⟨Aa, ca, rfl, hE⟩
    (try replace hb := hb.ext hE); (try replace hm := hm.ext hE); (try replace h1 := h1.ext hE); (try replace h2 := h2.ext hE); (try replace h3 := h3.ext hE); (try replace h4 := h4.ext hE); (try replace h5 := h5.ext hE); (try replace h6 := h6.ext hE); (try replace hN := hN.ext hE); (try replace HE := Lib.hid (HE.out.trans hE)); (try replace r0 := r0.ext hE); (try replace r1 := r1.ext hE); (try replace r2 := r2.ext hE); (try replace r3 := r3.ext hE); (try replace r4 := r4.ext hE); (try replace r5 := r5.ext hE); (try replace r6 := r6.ext hE)
    replace hN5 := hN5.ext hE
    replace hN6 := hN6.ext hE
    clear hE cpa
    go_wp2_with (refine wpList_load_blk (by rfl) 25 _ rfl rfl h6 Tryd.underlying25 rfl (by kernel_rfl) ?_)
    refine (cpb _ _ _ hN6 (hTE _ HE.out)).mono ?_
    rintro e wb ⟨Ab, cb, rfl, hE⟩
    (try replace hb := hb.ext hE); (try replace hm := hm.ext hE); (try replace h1 := h1.ext hE); (try replace h2 := h2.ext hE); (try replace h3 := h3.ext hE); (try replace h4 := h4.ext hE); (try replace h5 := h5.ext hE); (try replace h6 := h6.ext hE); (try replace hN := hN.ext hE); (try replace HE := Lib.hid (HE.out.trans hE)); (try replace r0 := r0.ext hE); (try replace r1 := r1.ext hE); (try replace r2 := r2.ext hE); (try replace r3 := r3.ext hE); (try replace r4 := r4.ext hE); (try replace r5 := r5.ext hE); (try replace r6 := r6.ext hE)
    replace hN5 := hN5.ext hE
    replace hN6 := hN6.ext hE
    clear hE cpb
    go_wp2_with (refine wpList_load_blk (by rfl) 25 _ rfl rfl h1 Tryd.underlying25 rfl (by kernel_rfl) ?_)
    refine (cfm _ (hMm _ HE.out) (hTE _ HE.out)).mono ?_
    rintro e wc ⟨Af, cf, rfl, rf, hE⟩
    (try replace hb := hb.ext hE); (try replace hm := hm.ext hE); (try replace h1 := h1.ext hE); (try replace h2 := h2.ext hE); (try replace h3 := h3.ext hE); (try replace h4 := h4.ext hE); (try replace h5 := h5.ext hE); (try replace h6 := h6.ext hE); (try replace hN := hN.ext hE); (try replace HE := Lib.hid (HE.out.trans hE)); (try replace r0 := r0.ext hE); (try replace r1 := r1.ext hE); (try replace r2 := r2.ext hE); (try replace r3 := r3.ext hE); (try replace r4 := r4.ext hE); (try replace r5 := r5.ext hE); (try replace r6 := r6.ext hE)
    replace hN5 := hN5.ext hE
    replace hN6 := hN6.ext hE
    clear hE cfm e1 e2
    go_wp2_with (refine wpList_load_blk (by rfl) 25 _ rfl rfl h5 Tryd.underlying25 rfl (by kernel_rfl) ?_)
    refine (cfa _ _ _ hN5 (hTE _ HE.out)).mono ?_
    rintro e wd ⟨Ag, cg, rfl, rg, hE⟩
    (try replace hb := hb.ext hE); (try replace hm := hm.ext hE); (try replace h1 := h1.ext hE); (try replace h2 := h2.ext hE); (try replace h3 := h3.ext hE); (try replace h4 := h4.ext hE); (try replace h5 := h5.ext hE); (try replace h6 := h6.ext hE); (try replace hN := hN.ext hE); (try replace HE := Lib.hid (HE.out.trans hE)); (try replace r0 := r0.ext hE); (try replace r1 := r1.ext hE); (try replace r2 := r2.ext hE); (try replace r3 := r3.ext hE); (try replace r4 := r4.ext hE); (try replace r5 := r5.ext hE); (try replace r6 := r6.ext hE)
    replace hN6 := hN6.ext hE
    replace rf := rf.ext hE
    clear hE cfa hN5
    go_wp2_with fail
    refine (cin _ _ _ _ _ rg rf).mono ?_
    rintro e we ⟨rfl, hE⟩
    (try replace hb := hb.ext hE); (try replace hm := hm.ext hE); (try replace h1 := h1.ext hE); (try replace h2 := h2.ext hE); (try replace h3 := h3.ext hE); (try replace h4 := h4.ext hE); (try replace h5 := h5.ext hE); (try replace h6 := h6.ext hE); (try replace hN := hN.ext hE); (try replace HE := Lib.hid (HE.out.trans hE)); (try replace r0 := r0.ext hE); (try replace r1 := r1.ext hE); (try replace r2 := r2.ext hE); (try replace r3 := r3.ext hE); (try replace r4 := r4.ext hE); (try replace r5 := r5.ext hE); (try replace r6 := r6.ext hE)
    replace hN6 := hN6.ext hE
    replace rf := rf.ext hE
    clear hE rg
    go_wp2_with (refine wpList_load_blk (by rfl) 25 _ rfl rfl h6 Tryd.underlying25 rfl (by kernel_rfl) ?_)
    refine (cfb _ _ _ hN6 (hTE _ HE.out)).mono ?_
    rintro e wf ⟨Ah, ch, rfl, rh, hE⟩
    (try replace hb := hb.ext hE); (try replace hm := hm.ext hE); (try replace h1 := h1.ext hE); (try replace h2 := h2.ext hE); (try replace h3 := h3.ext hE); (try replace h4 := h4.ext hE); (try replace h5 := h5.ext hE); (try replace h6 := h6.ext hE); (try replace hN := hN.ext hE); (try replace HE := Lib.hid (HE.out.trans hE)); (try replace r0 := r0.ext hE); (try replace r1 := r1.ext hE); (try replace r2 := r2.ext hE); (try replace r3 := r3.ext hE); (try replace r4 := r4.ext hE); (try replace r5 := r5.ext hE); (try replace r6 := r6.ext hE)
    replace rf := rf.ext hE
    clear hE cfb hN6
    go_wp2_with fail
    refine (cin _ _ _ _ _ rh rf).mono ?_
    rintro e wg ⟨rfl, hE⟩
    replace HE := Lib.hid (HE.out.trans hE)
    clear hE cin
    go_wp2
    go_ret
    exact ⟨rfl, HE.out⟩
  · rw [hb] at OA OB
    obtain rfl : nB = nP := by have := OB.out; simp at *; omega
    have e0 : nA = nB + 1 := by have := OA.out; simp at *; omega
    have e1 : ((nA : Int) != (nB : Int) + 1) = false := by simp; omega
    have e2 : ((nA : Int) != (nB : Int) + 1 - 0) = false := by simp; omega
    clear OA OB hb e0
    go_wp2_with (refine wpList_load_blk (by rfl) 25 _ rfl rfl h5 Tryd.underlying25 rfl (by kernel_rfl) ?_)
    refine (cpa _ _ _ hN5 (hTE _ HE.out)).mono ?_
    rintro e wa ⟨Aa, ca, rfl, hE⟩
    (try replace hb := hb.ext hE); (try replace hm := hm.ext hE); (try replace h1 := h1.ext hE); (try replace h2 := h2.ext hE); (try replace h3 := h3.ext hE); (try replace h4 := h4.ext hE); (try replace h5 := h5.ext hE); (try replace h6 := h6.ext hE); (try replace hN := hN.ext hE); (try replace HE := Lib.hid (HE.out.trans hE)); (try replace r0 := r0.ext hE); (try replace r1 := r1.ext hE); (try replace r2 := r2.ext hE); (try replace r3 := r3.ext hE); (try replace r4 := r4.ext hE); (try replace r5 := r5.ext hE); (try replace r6 := r6.ext hE)
    replace hN5 := hN5.ext hE
    replace hN6 := hN6.ext hE
    clear hE cpa
    go_wp2_with (refine wpList_load_blk (by rfl) 25 _ rfl rfl h6 Tryd.underlying25 rfl (by kernel_rfl) ?_)
    refine (cpb _ _ _ hN6 (hTE _ HE.out)).mono ?_
    rintro e wb ⟨Ab, cb, rfl, hE⟩
    (try replace hb := hb.ext hE); (try replace hm := hm.ext hE); (try replace h1 := h1.ext hE); (try replace h2 := h2.ext hE); (try replace h3 := h3.ext hE); (try replace h4 := h4.ext hE); (try replace h5 := h5.ext hE); (try replace h6 := h6.ext hE); (try replace hN := hN.ext hE); (try replace HE := Lib.hid (HE.out.trans hE)); (try replace r0 := r0.ext hE); (try replace r1 := r1.ext hE); (try replace r2 := r2.ext hE); (try replace r3 := r3.ext hE); (try replace r4 := r4.ext hE); (try replace r5 := r5.ext hE); (try replace r6 := r6.ext hE)
    replace hN5 := hN5.ext hE
    replace hN6 := hN6.ext hE
    clear hE cpb
    go_wp2_with (refine wpList_load_blk (by rfl) 25 _ rfl rfl h1 Tryd.underlying25 rfl (by kernel_rfl) ?_)
    refine (cfm _ (hMm _ HE.out) (hTE _ HE.out)).mono ?_
    rintro e wc ⟨Af, cf, rfl, rf, hE⟩
    (try replace hb := hb.ext hE); (try replace hm := hm.ext hE); (try replace h1 := h1.ext hE); (try replace h2 := h2.ext hE); (try replace h3 := h3.ext hE); (try replace h4 := h4.ext hE); (try replace h5 := h5.ext hE); (try replace h6 := h6.ext hE); (try replace hN := hN.ext hE); (try replace HE := Lib.hid (HE.out.trans hE)); (try replace r0 := r0.ext hE); (try replace r1 := r1.ext hE); (try replace r2 := r2.ext hE); (try replace r3 := r3.ext hE); (try replace r4 := r4.ext hE); (try replace r5 := r5.ext hE); (try replace r6 := r6.ext hE)
    replace hN5 := hN5.ext hE
    replace hN6 := hN6.ext hE
    clear hE cfm e1 e2
    go_wp2_with (refine wpList_load_blk (by rfl) 25 _ rfl rfl h5 Tryd.underlying25 rfl (by kernel_rfl) ?_)
    refine (cfa _ _ _ hN5 (hTE _ HE.out)).mono ?_
    rintro e wd ⟨Ag, cg, rfl, rg, hE⟩
    (try replace hb := hb.ext hE); (try replace hm := hm.ext hE); (try replace h1 := h1.ext hE); (try replace h2 := h2.ext hE); (try replace h3 := h3.ext hE); (try replace h4 := h4.ext hE); (try replace h5 := h5.ext hE); (try replace h6 := h6.ext hE); (try replace hN := hN.ext hE); (try replace HE := Lib.hid (HE.out.trans hE)); (try replace r0 := r0.ext hE); (try replace r1 := r1.ext hE); (try replace r2 := r2.ext hE); (try replace r3 := r3.ext hE); (try replace r4 := r4.ext hE); (try replace r5 := r5.ext hE); (try replace r6 := r6.ext hE)
    replace hN6 := hN6.ext hE
    replace rf := rf.ext hE
    clear hE cfa hN5
    go_wp2_with fail
    refine (cin _ _ _ _ _ rg rf).mono ?_
    rintro e we ⟨rfl, hE⟩
    (try replace hb := hb.ext hE); (try replace hm := hm.ext hE); (try replace h1 := h1.ext hE); (try replace h2 := h2.ext hE); (try replace h3 := h3.ext hE); (try replace h4 := h4.ext hE); (try replace h5 := h5.ext hE); (try replace h6 := h6.ext hE); (try replace hN := hN.ext hE); (try replace HE := Lib.hid (HE.out.trans hE)); (try replace r0 := r0.ext hE); (try replace r1 := r1.ext hE); (try replace r2 := r2.ext hE); (try replace r3 := r3.ext hE); (try replace r4 := r4.ext hE); (try replace r5 := r5.ext hE); (try replace r6 := r6.ext hE)
    replace hN6 := hN6.ext hE
    replace rf := rf.ext hE
    clear hE rg
    go_wp2_with (refine wpList_load_blk (by rfl) 25 _ rfl rfl h6 Tryd.underlying25 rfl (by kernel_rfl) ?_)
    refine (cfb _ _ _ hN6 (hTE _ HE.out)).mono ?_
    rintro e wf ⟨Ah, ch, rfl, rh, hE⟩
    (try replace hb := hb.ext hE); (try replace hm := hm.ext hE); (try replace h1 := h1.ext hE); (try replace h2 := h2.ext hE); (try replace h3 := h3.ext hE); (try replace h4 := h4.ext hE); (try replace h5 := h5.ext hE); (try replace h6 := h6.ext hE); (try replace hN := hN.ext hE); (try replace HE := Lib.hid (HE.out.trans hE)); (try replace r0 := r0.ext hE); (try replace r1 := r1.ext hE); (try replace r2 := r2.ext hE); (try replace r3 := r3.ext hE); (try replace r4 := r4.ext hE); (try replace r5 := r5.ext hE); (try replace r6 := r6.ext hE)
    replace rf := rf.ext hE
    clear hE cfb hN6
    go_wp2_with fail
    refine (cin _ _ _ _ _ rh rf).mono ?_
    rintro e wg ⟨rfl, hE⟩
    replace HE := Lib.hid (HE.out.trans hE)
    clear hE cin
    go_wp2
    go_ret
    exact ⟨rfl, HE.out⟩
end Go.Proofs.YtcllbidhjggjiaaDoor
