/- AsidTakes. -/
import Derived.Test.YtngioemeplllhaaDoorLaw18b
import Derived.Test.YtngioemeplllhaaDoorSlb
namespace Go.Proofs.YtngioemeplllhaaDoor
open Go.ChangeShapes Go.WideShapes Go.ChangeAt Go.RowKit
set_option linter.unusedVariables false
set_option linter.unusedSimpArgs false
set_option maxRecDepth 10000

/-- n bools in a row -/
def bv (f : Nat → Bool) : Array Value := Array.ofFn (n := 17) fun j => .bool (f j)
theorem bv_get (f : Nat → Bool) {i : Nat} (h : i < 17) : (bv f)[i]? = some (.bool (f i)) := by simp [bv, h]
theorem bv_size (f : Nat → Bool) : (bv f).size = 17 := by simp [bv]
theorem bv_zero : bv (fun _ => false) = #[.bool false, .bool false, .bool false, .bool false, .bool false, .bool false, .bool false, .bool false, .bool false, .bool false, .bool false, .bool false, .bool false, .bool false, .bool false, .bool false, .bool false] := by rfl
attribute [irreducible] bv
theorem bv_set (f : Nat → Bool) (i : Nat) (b : Bool) : (bv f).setIfInBounds i (.bool b) = bv (fun j => if j = i then b else f j) := by
  apply Array.ext
  · simp [bv_size]
  · intro j h1 h2
    have hj : j < 17 := by simpa [bv_size] using h2
    have e1 := bv_get f hj
    have e2 := bv_get (fun j => if j = i then b else f j) hj
    rw [Array.getElem?_eq_getElem (by rw [bv_size]; exact hj)] at e1 e2
    rw [Array.getElem_setIfInBounds (by rw [bv_size]; exact hj), Option.some.inj e1, Option.some.inj e2]
    by_cases h : i = j
    · subst h; simp
    · simp [h, Ne.symm h]
theorem bool_info17 : (Tryd.prog.info? 4).map (fun i => (i.zero, i.size, i.bytes)) = some (some (.bool false), 1, 1) := by kernel_rfl
theorem make_bv (W : World) : (Instr.makeSlice 41 (.int .i64 17) (.int .i64 17)).run Tryd.prog W = .ok (.slice (some ⟨W.heap.size, 0, none⟩) 17 17) (W.alloc (.cells (bv fun _ => false) 4)) := by
  obtain ⟨i0, hi, hz0, hz1, hz2⟩ := info_parts bool_info17
  have h := run_make (P := Tryd.prog) W 41 4 i0 _ Tryd.underlying41 hi hz0 .i64 .i64 17 17 (by omega) (by omega) (by rw [hz2]; omega) (by omega)
  rw [h, hz1]
  have e : madeCells #[Value.bool false] 17 = bv (fun _ => false) := by
    apply Array.ext'
    rw [toList_madeCells_one, bv_zero]; rfl
  show Result.ok _ (W.alloc (.cells (madeCells #[Value.bool false] 17) _)) = _
  rw [e]; rfl
attribute [local irreducible] World.setRow World.alloc Blk
theorem an_freeI {T : World → Prop} (C : AsidC T) {n : Nat} {p : As} {tk ow : Nat → Bool} {o : Nat} (h : AnSt n p tk ow o) (W : World) (t : T W) :
    Calls Tryd.prog 15 #[.agg (anC p)] W fun e w' => e = .returned (.int .i64 ((n : Int) - (o : Int))) ∧ Ext W w' := by
  have := C.free p n W h.ok t
  have h2 := h.same
  rwa [h2.2, show (((n - o : Nat) : Nat) : Int) = (n : Int) - (o : Int) by omega] at this
theorem an_rightI {T : World → Prop} (C : AsidC T) {n : Nat} {p : As} {tk ow : Nat → Bool} {o : Nat} (h : AnSt n p tk ow o) (W : World) (t : T W) :
    Calls Tryd.prog 9 #[.agg (anC p)] W fun e w' => e = .returned (.bool true) ∧ Ext W w' := by
  have := C.right p W h.ok.ok t
  rwa [h.ok.right] at this
-- the numbers b are a now (W the world at hand, q what b holds), what is asked of them
set_option maxRecDepth 100000 in
set_option maxHeartbeats 8000000 in
theorem AsidTakes_w {T : World → Prop} (C : AsidC T) (y : Nat) (A : Option Addr) (l : List Nat) (c : Nat) (hy : y < 256) (hl : IsBytes l) (hm : l.length ≤ 9223372036854775807) (w : World) (hs : SlB w A l) (hT : T w) :
    Calls Tryd.prog 4 #[.int .u8 (y : Int), .slice A l.length c] w fun e w' => e = .returned (.bool true) ∧ Ext w w' := by
  have hTE : ∀ W : World, Ext w W → T W := fun W e => C.ext _ _ hT e
  have HE := Lib.hid (Ext.refl w)
  have caw := fun W t => awake18_c C W t
  clear hT
  by_cases hlen : 200 < l.length
  · have hd2 : decide ((200 : Int) < (l.length : Int)) = true := by simp; omega
    clear hlen
    go_enter Tryd.func4, Tryd.ntmps4
    go_wp2_with (fail); refine (caw _ (hTE _ HE.out)).mono ?_; rintro e w' ⟨rfl, hE⟩; (try replace hc := hc.ext hE); (try replace hm := hm.ext hE); (try replace h1 := h1.ext hE); (try replace h2 := h2.ext hE); (try replace h3 := h3.ext hE); (try replace h4 := h4.ext hE); (try replace hO := hO.ext hE); (try replace HE := Lib.hid (HE.out.trans hE)); (try replace r0 := r0.ext hE); (try replace r1 := r1.ext hE); (try replace r2 := r2.ext hE); (try replace r3 := r3.ext hE); (try replace r4 := r4.ext hE); (try replace r5 := r5.ext hE); (try replace r6 := r6.ext hE); clear hE
    go_wp2_with (fail); refine (caw _ (hTE _ HE.out)).mono ?_; rintro e w' ⟨rfl, hE⟩; (try replace hc := hc.ext hE); (try replace hm := hm.ext hE); (try replace h1 := h1.ext hE); (try replace h2 := h2.ext hE); (try replace h3 := h3.ext hE); (try replace h4 := h4.ext hE); (try replace hO := hO.ext hE); (try replace HE := Lib.hid (HE.out.trans hE)); (try replace r0 := r0.ext hE); (try replace r1 := r1.ext hE); (try replace r2 := r2.ext hE); (try replace r3 := r3.ext hE); (try replace r4 := r4.ext hE); (try replace r5 := r5.ext hE); (try replace r6 := r6.ext hE); clear hE
    go_wp2
    go_ret
    exact ⟨rfl, HE.out⟩
  have hd2 : decide ((200 : Int) < (l.length : Int)) = false := by simp; omega
  obtain ⟨n, hn⟩ : ∃ n : Nat, 1 + (y : Int) % 16 = (n : Int) := ⟨1 + y % 16, by omega⟩
  have hn0 : 1 ≤ n := by omega
  have hn16 : n ≤ 16 := by omega
  have cnew := fun W t => C.new (n : Int) W (by omega) t
  have hst := Lib.hid (an_new hn0 hn16)
  rw [anN_yes hn0 hn16] at cnew
  have hmk := make_bv
  generalize anN (n : Int) = p0 at *
  go_enter Tryd.func4, Tryd.ntmps4
  go_wp2_with (fail); refine (caw _ (hTE _ HE.out)).mono ?_; rintro e w' ⟨rfl, hE⟩; (try replace hc := hc.ext hE); (try replace hm := hm.ext hE); (try replace h1 := h1.ext hE); (try replace h2 := h2.ext hE); (try replace h3 := h3.ext hE); (try replace h4 := h4.ext hE); (try replace hO := hO.ext hE); (try replace HE := Lib.hid (HE.out.trans hE)); (try replace r0 := r0.ext hE); (try replace r1 := r1.ext hE); (try replace r2 := r2.ext hE); (try replace r3 := r3.ext hE); (try replace r4 := r4.ext hE); (try replace r5 := r5.ext hE); (try replace r6 := r6.ext hE); clear hE
  go_wp2_with (fail); refine (cnew _ (hTE _ HE.out)).mono ?_; rintro e w' ⟨rfl, hE⟩; (try replace hc := hc.ext hE); (try replace hm := hm.ext hE); (try replace h1 := h1.ext hE); (try replace h2 := h2.ext hE); (try replace h3 := h3.ext hE); (try replace h4 := h4.ext hE); (try replace hO := hO.ext hE); (try replace HE := Lib.hid (HE.out.trans hE)); (try replace r0 := r0.ext hE); (try replace r1 := r1.ext hE); (try replace r2 := r2.ext hE); (try replace r3 := r3.ext hE); (try replace r4 := r4.ext hE); (try replace r5 := r5.ext hE); (try replace r6 := r6.ext hE); clear hE
  clear cnew caw
  have hgA := HE.out.size
  have zz1 : Blk (w'.alloc (.cells #[.int .i64 0, .int .u64 0, .int .u64 0] 24)) w'.heap.size 24 #[.int .i64 0, .int .u64 0, .int .u64 0] := Blk.new _ _ _; have hE := ((Ext.refl w').alloc (.cells #[.int .i64 0, .int .u64 0, .int .u64 0] 24)).row (Nat.le_refl w'.heap.size) (anC p0); (try replace hc := hc.ext hE); (try replace hm := hm.ext hE); (try replace h1 := h1.ext hE); (try replace h2 := h2.ext hE); (try replace h3 := h3.ext hE); (try replace h4 := h4.ext hE); (try replace hO := hO.ext hE); (try replace HE := Lib.hid (HE.out.trans hE)); (try replace r0 := r0.ext hE); (try replace r1 := r1.ext hE); (try replace r2 := r2.ext hE); (try replace r3 := r3.ext hE); (try replace r4 := r4.ext hE); (try replace r5 := r5.ext hE); (try replace r6 := r6.ext hE); clear hE; have h1 := zz1.row (anC p0)
  go_wp2_with ((refine wpList_store_blk rfl 24 _ _ rfl rfl rfl zz1 (an_info _) (by simp [anC_size]) (anC_one _) ?_); clear zz1; generalize (w'.alloc (.cells #[.int .i64 0, .int .u64 0, .int .u64 0] 24)).setRow w'.heap.size (anC p0) = X at *)
  have hgT := h1.lt
  generalize w'.heap.size = gA at *
  have h2 : Blk ((X.alloc (.cells (bv fun _ => false) 4)).alloc (.cells (bv fun _ => false) 4)) X.heap.size 4 (bv fun _ => false) := (Blk.new _ _ _).alloc _
  have h3 : Blk ((X.alloc (.cells (bv fun _ => false) 4)).alloc (.cells (bv fun _ => false) 4)) (X.heap.size + 1) 4 (bv fun _ => false) := blk_at (by simp)
  replace h1 := (h1.alloc (.cells (bv fun _ => false) 4)).alloc (.cells (bv fun _ => false) 4)
  replace HE := Lib.hid ((HE.out.alloc (.cells (bv fun _ => false) 4)).alloc (.cells (bv fun _ => false) 4))
  generalize (X.alloc (.cells (bv fun _ => false) 4)).alloc (.cells (bv fun _ => false) 4) = X0 at *
  generalize X.heap.size = gT at *
  clear hmk
  go_loopw [10, 11] (fun ou i wr => ∃ (k : Nat) (p : As) (o : Nat) (tk ow : Nat → Bool), k ≤ l.length ∧ i = .int .i64 k ∧ ou = .int .i64 o ∧ Hid (AnSt n p tk ow o) ∧ Blk wr gA 24 (anC p) ∧ Blk wr gT 4 (bv tk) ∧ Blk wr (gT + 1) 4 (bv ow) ∧ Ext w wr) (fun _ i _ => (l.length - intOf i).toNat)
  case atStart => exact ⟨0, p0, 0, _, _, by omega, rfl, rfl, hst, h1, h2, h3, HE.out⟩
  case round =>
    clear hst h1 h2 h3 HE
    obtain ⟨k, p, o, tk, ow, hk, rfl, rfl, hst, h1, h2, h3, hE⟩ := hrel
    have HE := Lib.hid hE
    clear hE
    by_cases hlt : k < l.length
    case neg =>
      obtain rfl : k = l.length := by omega
      clear h1 h2 h3
      go_wp2
      go_ret
      exact ⟨rfl, HE.out⟩
    obtain ⟨b, off, rfl, hbw, hc⟩ := hs (by omega)
    have hck := ext_cell HE.out (hc k hlt)
    have hx : bAt l k < 256 := bAt_lt hl k
    have ho := hst.out.same.1
    generalize bAt l k = x at *
    clear hc hs
    by_cases hx2 : x % 2 = 0
    · have d2 : ((x : Int) % 2 == 0) = true := by rw [beq_iff_eq]; omega
      clear hx2
      have ct := fun W t => C.take p n W hst.out.ok t
      by_cases h0 : p.fr = 0
      · obtain ⟨e1, e2, e3, e4⟩ := an_T0 h0
        rw [e1, e2, e3, e4] at ct
        have hall : ∀ j, 1 ≤ j → j ≤ n → tk j = true := fun j j0 j1 => hst.out.zero h0 j0 j1
        have Hall := Lib.hid hall
        clear e1 e2 e3 e4 hall h0
        have cf := an_freeI C hst.out
        have cr := an_rightI C hst.out
        go_wp2_with ((refine wpList_load_blk (by rfl) 24 _ rfl rfl h1 Tryd.underlying24 rfl (by kernel_rfl) ?_)); refine (ct _ (hTE _ HE.out)).mono ?_; rintro e w' ⟨rfl, hE⟩; (try replace hc := hc.ext hE); (try replace hm := hm.ext hE); (try replace h1 := h1.ext hE); (try replace h2 := h2.ext hE); (try replace h3 := h3.ext hE); (try replace h4 := h4.ext hE); (try replace hO := hO.ext hE); (try replace HE := Lib.hid (HE.out.trans hE)); (try replace r0 := r0.ext hE); (try replace r1 := r1.ext hE); (try replace r2 := r2.ext hE); (try replace r3 := r3.ext hE); (try replace r4 := r4.ext hE); (try replace r5 := r5.ext hE); (try replace r6 := r6.ext hE); clear hE
        clear ct
        have hA := h1.lt
        have hO := h3.lt
        have zz1 : Blk (w'.alloc (.cells #[.int .i64 0, .int .u64 0, .int .u64 0] 24)) w'.heap.size 24 #[.int .i64 0, .int .u64 0, .int .u64 0] := Blk.new _ _ _; have hE := ((Ext.refl w').alloc (.cells #[.int .i64 0, .int .u64 0, .int .u64 0] 24)).row (Nat.le_refl w'.heap.size) (anC p); (try replace hc := hc.ext hE); (try replace hm := hm.ext hE); (try replace h1 := h1.ext hE); (try replace h2 := h2.ext hE); (try replace h3 := h3.ext hE); (try replace h4 := h4.ext hE); (try replace hO := hO.ext hE); (try replace HE := Lib.hid (HE.out.trans hE)); (try replace r0 := r0.ext hE); (try replace r1 := r1.ext hE); (try replace r2 := r2.ext hE); (try replace r3 := r3.ext hE); (try replace r4 := r4.ext hE); (try replace r5 := r5.ext hE); (try replace r6 := r6.ext hE); clear hE; have h4 := zz1.row (anC p)
        go_wp2_with ((refine wpList_store_blk rfl 24 _ _ rfl rfl rfl zz1 (an_info _) (by simp [anC_size]) (anC_one _) ?_); clear zz1; generalize (w'.alloc (.cells #[.int .i64 0, .int .u64 0, .int .u64 0] 24)).setRow w'.heap.size (anC p) = X at *)
        generalize w'.heap.size = gB at *
        go_loop [16] (fun u => ∃ j : Nat, 1 ≤ j ∧ j ≤ n + 1 ∧ u = .int .i64 j) (fun u => (n + 1 - intOf u).toNat)
        case atStart => exact ⟨1, by omega, by omega, rfl⟩
        case round =>
          obtain ⟨j, j0, j1, rfl⟩ := hrel
          by_cases hj : j ≤ n
          · have hcj := (h2.cell j).trans (bv_get tk (by omega))
            rw [Hall.out j j0 hj] at hcj
            have dj : decide (j ≤ n) = true := by simp; omega
            go_wp2
            go_round
            case rel => exact ⟨j + 1, by omega, by omega, by go_num⟩
            case measure => simp [intOf]; omega
          · have dj : decide (j ≤ n) = false := by simp; omega
            clear hj j0 j1
            have h1k := h1
            replace h1 := h1.row (anC p)
            replace h2 := h2.apart (show gT ≠ gA by omega) (anC p)
            replace h3 := h3.apart (show gT + 1 ≠ gA by omega) (anC p)
            replace HE := Lib.hid (HE.out.row hgA (anC p))
            go_wp2_with (first | (refine wpList_load_blk (by rfl) 24 _ rfl rfl h4 Tryd.underlying24 rfl (by kernel_rfl) ?_) | ((refine wpList_store_blk rfl 24 _ _ rfl rfl rfl h1k (an_info _) (by simp [anC_size]) (anC_one _) ?_); clear h1k h4 dj; generalize X.setRow gA (anC p) = Y at *) | (refine wpList_load_blk (by rfl) 24 _ rfl rfl h1 Tryd.underlying24 rfl (by kernel_rfl) ?_))
            refine (cf _ (hTE _ HE.out)).mono ?_
            rintro e w' ⟨rfl, hE⟩
            (try replace hc := hc.ext hE); (try replace hm := hm.ext hE); (try replace h1 := h1.ext hE); (try replace h2 := h2.ext hE); (try replace h3 := h3.ext hE); (try replace h4 := h4.ext hE); (try replace hO := hO.ext hE); (try replace HE := Lib.hid (HE.out.trans hE)); (try replace r0 := r0.ext hE); (try replace r1 := r1.ext hE); (try replace r2 := r2.ext hE); (try replace r3 := r3.ext hE); (try replace r4 := r4.ext hE); (try replace r5 := r5.ext hE); (try replace r6 := r6.ext hE)
            clear hE cf
            go_wp2_with ((refine wpList_load_blk (by rfl) 24 _ rfl rfl h1 Tryd.underlying24 rfl (by kernel_rfl) ?_)); refine (cr _ (hTE _ HE.out)).mono ?_; rintro e w' ⟨rfl, hE⟩; (try replace hc := hc.ext hE); (try replace hm := hm.ext hE); (try replace h1 := h1.ext hE); (try replace h2 := h2.ext hE); (try replace h3 := h3.ext hE); (try replace h4 := h4.ext hE); (try replace hO := hO.ext hE); (try replace HE := Lib.hid (HE.out.trans hE)); (try replace r0 := r0.ext hE); (try replace r1 := r1.ext hE); (try replace r2 := r2.ext hE); (try replace r3 := r3.ext hE); (try replace r4 := r4.ext hE); (try replace r5 := r5.ext hE); (try replace r6 := r6.ext hE); clear hE
            clear cr
            have H1 := Lib.hid h1
            have H2 := Lib.hid h2
            have H3 := Lib.hid h3
            clear h1 h2 h3
            go_wp2
            exact ⟨⟨k + 1, p, o, _, _, by omega, by go_num, by go_num, hst, H1.out, H2.out, H3.out, HE.out⟩, by simp [intOf]; omega⟩
      · obtain ⟨hLn, hall, hno, how, hst2⟩ := hst.out.low h0
        obtain ⟨-, e2, e3, e4⟩ := an_T1 h0
        rw [e2, e3, e4, how] at ct
        have hL0 : 1 ≤ lowN' p.fr + 1 := by omega
        have hL1 : lowN' p.fr + 1 ≤ n := by omega
        have Hall := Lib.hid hall
        have Hno := Lib.hid hno
        have Hst := Lib.hid hst2
        clear e2 e3 e4 hall hno hst2 how hLn h0 hst
        generalize lowN' p.fr + 1 = L at *
        generalize anT p = q at *
        have hL17 : L < 17 := by omega
        have cf := an_freeI C Hst.out
        have cr := an_rightI C Hst.out
        have hBB : (ow L != ow L) = false := by simp
        go_wp2_with ((refine wpList_load_blk (by rfl) 24 _ rfl rfl h1 Tryd.underlying24 rfl (by kernel_rfl) ?_)); refine (ct _ (hTE _ HE.out)).mono ?_; rintro e w' ⟨rfl, hE⟩; (try replace hc := hc.ext hE); (try replace hm := hm.ext hE); (try replace h1 := h1.ext hE); (try replace h2 := h2.ext hE); (try replace h3 := h3.ext hE); (try replace h4 := h4.ext hE); (try replace hO := hO.ext hE); (try replace HE := Lib.hid (HE.out.trans hE)); (try replace r0 := r0.ext hE); (try replace r1 := r1.ext hE); (try replace r2 := r2.ext hE); (try replace r3 := r3.ext hE); (try replace r4 := r4.ext hE); (try replace r5 := r5.ext hE); (try replace r6 := r6.ext hE); clear hE
        clear ct
        have hA := h1.lt
        have hO := h3.lt
        have zz1 : Blk (w'.alloc (.cells #[.int .i64 0, .int .u64 0, .int .u64 0] 24)) w'.heap.size 24 #[.int .i64 0, .int .u64 0, .int .u64 0] := Blk.new _ _ _; have hE := ((Ext.refl w').alloc (.cells #[.int .i64 0, .int .u64 0, .int .u64 0] 24)).row (Nat.le_refl w'.heap.size) (anC q); (try replace hc := hc.ext hE); (try replace hm := hm.ext hE); (try replace h1 := h1.ext hE); (try replace h2 := h2.ext hE); (try replace h3 := h3.ext hE); (try replace h4 := h4.ext hE); (try replace hO := hO.ext hE); (try replace HE := Lib.hid (HE.out.trans hE)); (try replace r0 := r0.ext hE); (try replace r1 := r1.ext hE); (try replace r2 := r2.ext hE); (try replace r3 := r3.ext hE); (try replace r4 := r4.ext hE); (try replace r5 := r5.ext hE); (try replace r6 := r6.ext hE); clear hE; have h4 := zz1.row (anC q)
        go_wp2_with ((refine wpList_store_blk rfl 24 _ _ rfl rfl rfl zz1 (an_info _) (by simp [anC_size]) (anC_one _) ?_); clear zz1; generalize (w'.alloc (.cells #[.int .i64 0, .int .u64 0, .int .u64 0] 24)).setRow w'.heap.size (anC q) = X at *)
        generalize w'.heap.size = gB at *
        go_loop [16] (fun u => ∃ j : Nat, 1 ≤ j ∧ j ≤ L ∧ u = .int .i64 j) (fun u => (n + 1 - intOf u).toNat)
        case atStart => exact ⟨1, by omega, by omega, rfl⟩
        case round =>
          obtain ⟨j, j0, j1, rfl⟩ := hrel
          have dj : decide (j ≤ n) = true := by simp; omega
          by_cases hj : j < L
          · have hcj := (h2.cell j).trans (bv_get tk (by omega))
            rw [Hall.out j j0 hj] at hcj
            go_wp2
            go_round
            case rel => exact ⟨j + 1, by omega, by omega, by go_num⟩
            case measure => simp [intOf]; omega
          · obtain rfl : j = L := by omega
            have hcj := (h2.cell j).trans (bv_get tk hL17)
            rw [Hno.out] at hcj
            have hco := (h3.cell j).trans (bv_get ow hL17)
            clear hj j0 j1 Hall
            have h2k := h2
            have hs2 := bv_set tk j true
            have hs3 := bv_set ow j true
            generalize (fun i => if i = j then true else tk i) = tk2 at *
            generalize (fun i => if i = j then true else ow i) = ow2 at *
            replace h1 := h1.apart (show gA ≠ gT by omega) (bv tk2)
            replace h3 := h3.apart (show gT + 1 ≠ gT by omega) (bv tk2)
            replace h4 := h4.apart (show gB ≠ gT by omega) (bv tk2)
            replace h2 := h2.row (bv tk2)
            replace HE := Lib.hid (HE.out.row (show w.heap.size ≤ gT by omega) (bv tk2))
            go_upto_region 20 with (refine wpList_store_cell rfl 4 _ _ rfl rfl rfl h2k (by simp [bv_size, hL17]) (hs2) (by kernel_rfl) rfl rfl ?_)
            (try simp only [Act.put, List.setIfInBounds_toArray, List.set_cons_zero, List.set_cons_succ])
            clear hcj hco h2k hs2 hBB dj
            generalize X.setRow gT (bv tk2) = Y1 at *
            have h3k := h3
            replace h1 := h1.apart (show gA ≠ gT + 1 by omega) (bv ow2)
            replace h2 := h2.apart (show gT ≠ gT + 1 by omega) (bv ow2)
            replace h4 := h4.apart (show gB ≠ gT + 1 by omega) (bv ow2)
            replace h3 := h3.row (bv ow2)
            replace HE := Lib.hid (HE.out.row (show w.heap.size ≤ gT + 1 by omega) (bv ow2))
            go_upto_region 21 with (refine wpList_store_cell rfl 4 _ _ rfl rfl rfl h3k (by simp [bv_size, hL17]) (hs3) (by kernel_rfl) rfl rfl ?_)
            (try simp only [Act.put, List.setIfInBounds_toArray, List.set_cons_zero, List.set_cons_succ])
            clear h3k hs3
            generalize Y1.setRow (gT + 1) (bv ow2) = Y2 at *
            have h1k := h1
            replace h1 := h1.row (anC q)
            replace h2 := h2.apart (show gT ≠ gA by omega) (anC q)
            replace h3 := h3.apart (show gT + 1 ≠ gA by omega) (anC q)
            replace HE := Lib.hid (HE.out.row hgA (anC q))
            go_wp2_with (first | (refine wpList_load_blk (by rfl) 24 _ rfl rfl h4 Tryd.underlying24 rfl (by kernel_rfl) ?_) | ((refine wpList_store_blk rfl 24 _ _ rfl rfl rfl h1k (an_info _) (by simp [anC_size]) (anC_one _) ?_); clear h1k h4; generalize Y2.setRow gA (anC q) = Y at *) | (refine wpList_load_blk (by rfl) 24 _ rfl rfl h1 Tryd.underlying24 rfl (by kernel_rfl) ?_))
            refine (cf _ (hTE _ HE.out)).mono ?_
            rintro e w' ⟨rfl, hE⟩
            (try replace hc := hc.ext hE); (try replace hm := hm.ext hE); (try replace h1 := h1.ext hE); (try replace h2 := h2.ext hE); (try replace h3 := h3.ext hE); (try replace h4 := h4.ext hE); (try replace hO := hO.ext hE); (try replace HE := Lib.hid (HE.out.trans hE)); (try replace r0 := r0.ext hE); (try replace r1 := r1.ext hE); (try replace r2 := r2.ext hE); (try replace r3 := r3.ext hE); (try replace r4 := r4.ext hE); (try replace r5 := r5.ext hE); (try replace r6 := r6.ext hE)
            clear hE cf
            go_wp2_with ((refine wpList_load_blk (by rfl) 24 _ rfl rfl h1 Tryd.underlying24 rfl (by kernel_rfl) ?_)); refine (cr _ (hTE _ HE.out)).mono ?_; rintro e w' ⟨rfl, hE⟩; (try replace hc := hc.ext hE); (try replace hm := hm.ext hE); (try replace h1 := h1.ext hE); (try replace h2 := h2.ext hE); (try replace h3 := h3.ext hE); (try replace h4 := h4.ext hE); (try replace hO := hO.ext hE); (try replace HE := Lib.hid (HE.out.trans hE)); (try replace r0 := r0.ext hE); (try replace r1 := r1.ext hE); (try replace r2 := r2.ext hE); (try replace r3 := r3.ext hE); (try replace r4 := r4.ext hE); (try replace r5 := r5.ext hE); (try replace r6 := r6.ext hE); clear hE
            clear cr
            have H1 := Lib.hid h1
            have H2 := Lib.hid h2
            have H3 := Lib.hid h3
            clear h1 h2 h3
            go_wp2
            exact ⟨⟨k + 1, q, o + 1, _, _, by omega, by go_num, by go_num, Hst, H1.out, H2.out, H3.out, HE.out⟩, by simp [intOf]; omega⟩
    · have d2 : ((x : Int) % 2 == 0) = false := by rw [beq_eq_false_iff_ne]; omega
      clear hx2
      obtain ⟨kk, hkk, hk17⟩ : ∃ kk : Nat, (x : Int) / 2 % 17 = (kk : Int) ∧ kk < 17 := ⟨x / 2 % 17, by omega, by omega⟩
      have cg := fun W t => C.give p n kk W hst.out.ok (by omega) t
      have his := hst.out.is kk
      have hck2 := (h2.cell kk).trans (bv_get tk hk17)
      cases htk : tk kk
      · rw [htk] at his hck2
        obtain ⟨e1, e2⟩ := an_G0 his
        rw [e1, e2] at cg
        have cf := an_freeI C hst.out
        have cr := an_rightI C hst.out
        clear e1 e2 his
        go_wp2_with ((refine wpList_load_blk (by rfl) 24 _ rfl rfl h1 Tryd.underlying24 rfl (by kernel_rfl) ?_)); refine (cg _ (hTE _ HE.out)).mono ?_; rintro e w' ⟨rfl, hE⟩; (try replace hc := hc.ext hE); (try replace hm := hm.ext hE); (try replace h1 := h1.ext hE); (try replace h2 := h2.ext hE); (try replace h3 := h3.ext hE); (try replace h4 := h4.ext hE); (try replace hO := hO.ext hE); (try replace HE := Lib.hid (HE.out.trans hE)); (try replace r0 := r0.ext hE); (try replace r1 := r1.ext hE); (try replace r2 := r2.ext hE); (try replace r3 := r3.ext hE); (try replace r4 := r4.ext hE); (try replace r5 := r5.ext hE); (try replace r6 := r6.ext hE); clear hE
        clear cg
        have hA := h1.lt
        have hO := h3.lt
        clear hck2
        have zz1 : Blk (w'.alloc (.cells #[.int .i64 0, .int .u64 0, .int .u64 0] 24)) w'.heap.size 24 #[.int .i64 0, .int .u64 0, .int .u64 0] := Blk.new _ _ _; have hE := ((Ext.refl w').alloc (.cells #[.int .i64 0, .int .u64 0, .int .u64 0] 24)).row (Nat.le_refl w'.heap.size) (anC p); (try replace hc := hc.ext hE); (try replace hm := hm.ext hE); (try replace h1 := h1.ext hE); (try replace h2 := h2.ext hE); (try replace h3 := h3.ext hE); (try replace h4 := h4.ext hE); (try replace hO := hO.ext hE); (try replace HE := Lib.hid (HE.out.trans hE)); (try replace r0 := r0.ext hE); (try replace r1 := r1.ext hE); (try replace r2 := r2.ext hE); (try replace r3 := r3.ext hE); (try replace r4 := r4.ext hE); (try replace r5 := r5.ext hE); (try replace r6 := r6.ext hE); clear hE; have h4 := zz1.row (anC p)
        have hck2 := (h2.cell kk).trans (bv_get tk hk17)
        rw [htk] at hck2
        have h1k := h1.row (anC p)
        replace h2 := h2.apart (show gT ≠ gA by omega) (anC p)
        replace h3 := h3.apart (show gT + 1 ≠ gA by omega) (anC p)
        replace HE := Lib.hid (HE.out.row hgA (anC p))
        go_wp2_with (first | ((refine wpList_store_blk rfl 24 _ _ rfl rfl rfl zz1 (an_info _) (by simp [anC_size]) (anC_one _) ?_); clear zz1; generalize (w'.alloc (.cells #[.int .i64 0, .int .u64 0, .int .u64 0] 24)).setRow w'.heap.size (anC p) = X at *; generalize w'.heap.size = gB at *) | (refine wpList_load_blk (by rfl) 24 _ rfl rfl h4 Tryd.underlying24 rfl (by kernel_rfl) ?_) | ((refine wpList_store_blk rfl 24 _ _ rfl rfl rfl h1 (an_info _) (by simp [anC_size]) (anC_one _) ?_); clear h1 h4 hck2; have h1 := h1k; clear h1k; generalize X.setRow gA (anC p) = Y at *) | (refine wpList_load_blk (by rfl) 24 _ rfl rfl h1 Tryd.underlying24 rfl (by kernel_rfl) ?_))
        refine (cf _ (hTE _ HE.out)).mono ?_
        rintro e w' ⟨rfl, hE⟩
        (try replace hc := hc.ext hE); (try replace hm := hm.ext hE); (try replace h1 := h1.ext hE); (try replace h2 := h2.ext hE); (try replace h3 := h3.ext hE); (try replace h4 := h4.ext hE); (try replace hO := hO.ext hE); (try replace HE := Lib.hid (HE.out.trans hE)); (try replace r0 := r0.ext hE); (try replace r1 := r1.ext hE); (try replace r2 := r2.ext hE); (try replace r3 := r3.ext hE); (try replace r4 := r4.ext hE); (try replace r5 := r5.ext hE); (try replace r6 := r6.ext hE)
        clear hE cf
        go_wp2_with ((refine wpList_load_blk (by rfl) 24 _ rfl rfl h1 Tryd.underlying24 rfl (by kernel_rfl) ?_)); refine (cr _ (hTE _ HE.out)).mono ?_; rintro e w' ⟨rfl, hE⟩; (try replace hc := hc.ext hE); (try replace hm := hm.ext hE); (try replace h1 := h1.ext hE); (try replace h2 := h2.ext hE); (try replace h3 := h3.ext hE); (try replace h4 := h4.ext hE); (try replace hO := hO.ext hE); (try replace HE := Lib.hid (HE.out.trans hE)); (try replace r0 := r0.ext hE); (try replace r1 := r1.ext hE); (try replace r2 := r2.ext hE); (try replace r3 := r3.ext hE); (try replace r4 := r4.ext hE); (try replace r5 := r5.ext hE); (try replace r6 := r6.ext hE); clear hE
        clear cr
        have H1 := Lib.hid h1
        have H2 := Lib.hid h2
        have H3 := Lib.hid h3
        clear h1 h2 h3
        go_wp2
        exact ⟨⟨k + 1, p, o, _, _, by omega, by go_num, by go_num, hst, H1.out, H2.out, H3.out, HE.out⟩, by simp [intOf]; omega⟩
      · rw [htk] at his hck2
        obtain ⟨hg1, hg2⟩ := hst.out.give htk
        have Hst := Lib.hid hg2
        rw [(an_G1 his).2] at cg
        have cf := an_freeI C Hst.out
        have cr := an_rightI C Hst.out
        rw [show ((o - 1 : Nat) : Int) = (o : Int) - 1 by omega] at cf
        generalize anG p kk = q at *
        clear his hg2 hst
        go_wp2_with ((refine wpList_load_blk (by rfl) 24 _ rfl rfl h1 Tryd.underlying24 rfl (by kernel_rfl) ?_)); refine (cg _ (hTE _ HE.out)).mono ?_; rintro e w' ⟨rfl, hE⟩; (try replace hc := hc.ext hE); (try replace hm := hm.ext hE); (try replace h1 := h1.ext hE); (try replace h2 := h2.ext hE); (try replace h3 := h3.ext hE); (try replace h4 := h4.ext hE); (try replace hO := hO.ext hE); (try replace HE := Lib.hid (HE.out.trans hE)); (try replace r0 := r0.ext hE); (try replace r1 := r1.ext hE); (try replace r2 := r2.ext hE); (try replace r3 := r3.ext hE); (try replace r4 := r4.ext hE); (try replace r5 := r5.ext hE); (try replace r6 := r6.ext hE); clear hE
        clear cg hck2
        have hA := h1.lt
        have hO := h3.lt
        have zz1 : Blk (w'.alloc (.cells #[.int .i64 0, .int .u64 0, .int .u64 0] 24)) w'.heap.size 24 #[.int .i64 0, .int .u64 0, .int .u64 0] := Blk.new _ _ _; have hE := ((Ext.refl w').alloc (.cells #[.int .i64 0, .int .u64 0, .int .u64 0] 24)).row (Nat.le_refl w'.heap.size) (anC q); (try replace hc := hc.ext hE); (try replace hm := hm.ext hE); (try replace h1 := h1.ext hE); (try replace h2 := h2.ext hE); (try replace h3 := h3.ext hE); (try replace h4 := h4.ext hE); (try replace hO := hO.ext hE); (try replace HE := Lib.hid (HE.out.trans hE)); (try replace r0 := r0.ext hE); (try replace r1 := r1.ext hE); (try replace r2 := r2.ext hE); (try replace r3 := r3.ext hE); (try replace r4 := r4.ext hE); (try replace r5 := r5.ext hE); (try replace r6 := r6.ext hE); clear hE; have h4 := zz1.row (anC q)
        go_upto_region 25 with ((refine wpList_store_blk rfl 24 _ _ rfl rfl rfl zz1 (an_info _) (by simp [anC_size]) (anC_one _) ?_); clear zz1; generalize (w'.alloc (.cells #[.int .i64 0, .int .u64 0, .int .u64 0] 24)).setRow w'.heap.size (anC q) = X at *; generalize w'.heap.size = gB at *)
        (try simp only [Act.put, List.setIfInBounds_toArray, List.set_cons_zero, List.set_cons_succ])
        have hck2 := (h2.cell kk).trans (bv_get tk hk17)
        rw [htk] at hck2
        have h2k := h2
        have hs2 := bv_set tk kk false
        generalize (fun i => if i = kk then false else tk i) = tk2 at *
        replace h1 := h1.apart (show gA ≠ gT by omega) (bv tk2)
        replace h3 := h3.apart (show gT + 1 ≠ gT by omega) (bv tk2)
        replace h4 := h4.apart (show gB ≠ gT by omega) (bv tk2)
        replace h2 := h2.row (bv tk2)
        replace HE := Lib.hid (HE.out.row (show w.heap.size ≤ gT by omega) (bv tk2))
        clear htk
        go_upto_region 29 with (refine wpList_store_cell rfl 4 _ _ rfl rfl rfl h2k (by simp [bv_size, hk17]) (hs2) (by kernel_rfl) rfl rfl ?_)
        (try simp only [Act.put, List.setIfInBounds_toArray, List.set_cons_zero, List.set_cons_succ])
        clear h2k hs2 hck2
        generalize X.setRow gT (bv tk2) = Y1 at *
        have h1k := h1
        replace h1 := h1.row (anC q)
        replace h2 := h2.apart (show gT ≠ gA by omega) (anC q)
        replace h3 := h3.apart (show gT + 1 ≠ gA by omega) (anC q)
        replace HE := Lib.hid (HE.out.row hgA (anC q))
        go_wp2_with (first | (refine wpList_load_blk (by rfl) 24 _ rfl rfl h4 Tryd.underlying24 rfl (by kernel_rfl) ?_) | ((refine wpList_store_blk rfl 24 _ _ rfl rfl rfl h1k (an_info _) (by simp [anC_size]) (anC_one _) ?_); clear h1k h4; generalize Y1.setRow gA (anC q) = Y at *) | (refine wpList_load_blk (by rfl) 24 _ rfl rfl h1 Tryd.underlying24 rfl (by kernel_rfl) ?_))
        refine (cf _ (hTE _ HE.out)).mono ?_
        rintro e w' ⟨rfl, hE⟩
        (try replace hc := hc.ext hE); (try replace hm := hm.ext hE); (try replace h1 := h1.ext hE); (try replace h2 := h2.ext hE); (try replace h3 := h3.ext hE); (try replace h4 := h4.ext hE); (try replace hO := hO.ext hE); (try replace HE := Lib.hid (HE.out.trans hE)); (try replace r0 := r0.ext hE); (try replace r1 := r1.ext hE); (try replace r2 := r2.ext hE); (try replace r3 := r3.ext hE); (try replace r4 := r4.ext hE); (try replace r5 := r5.ext hE); (try replace r6 := r6.ext hE)
        clear hE cf
        go_wp2_with ((refine wpList_load_blk (by rfl) 24 _ rfl rfl h1 Tryd.underlying24 rfl (by kernel_rfl) ?_)); refine (cr _ (hTE _ HE.out)).mono ?_; rintro e w' ⟨rfl, hE⟩; (try replace hc := hc.ext hE); (try replace hm := hm.ext hE); (try replace h1 := h1.ext hE); (try replace h2 := h2.ext hE); (try replace h3 := h3.ext hE); (try replace h4 := h4.ext hE); (try replace hO := hO.ext hE); (try replace HE := Lib.hid (HE.out.trans hE)); (try replace r0 := r0.ext hE); (try replace r1 := r1.ext hE); (try replace r2 := r2.ext hE); (try replace r3 := r3.ext hE); (try replace r4 := r4.ext hE); (try replace r5 := r5.ext hE); (try replace r6 := r6.ext hE); clear hE
        clear cr
        have H1 := Lib.hid h1
        have H2 := Lib.hid h2
        have H3 := Lib.hid h3
        clear h1 h2 h3
        go_wp2
        exact ⟨⟨k + 1, q, o - 1, _, _, by omega, by go_num, by congr 1; omega, Hst, H1.out, H2.out, H3.out, HE.out⟩, by simp [intOf]; omega⟩
end Go.Proofs.YtngioemeplllhaaDoor
