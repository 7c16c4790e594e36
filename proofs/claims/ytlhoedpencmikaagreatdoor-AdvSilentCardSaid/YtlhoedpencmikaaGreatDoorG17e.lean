/- Lists of words ([]uint64), as they come in. -/
import Derived.Test.YtlhoedpencmikaaGreatDoorOpen14
import Derived.Test.YtlhoedpencmikaaGreatDoorGadc
import Derived.Test.YtlhoedpencmikaaGreatDoorGone
import Derived.Test.YtlhoedpencmikaaGreatDoorRhartb
namespace Go.Proofs.YtlhoedpencmikaaGreatDoor
open Go.ChangeShapes Go.WideShapes Go.ChangeAt Go.RowKit Go.Joins Go.Deep
set_option linter.unusedVariables false
set_option linter.unusedSimpArgs false
set_option maxRecDepth 10000

def KU : Wide Nat := ⟨25, 51, 1, 8, fun z => #[.int .u64 (z : Int)], 0⟩
theorem ku_ok : WideOk KU := ⟨fun _ => rfl, fun z => by simp [KU, Value.oneCell'], by decide, Tryz.underlying51, ⟨.int .u64 0, by kernel_rfl, rfl⟩⟩
/-- an element's cell -/
theorem ku_at {W : World} {L : List Nat} {b off c : Nat} (h : RowV KU W (some ⟨b, off, none⟩) L c) {i : Nat} (hi : i < L.length) : W.cell? ⟨b, off + i, none⟩ = some (.int .u64 ((L.getD i 0 : Nat) : Int)) ∧ b < W.heap.size := by
  obtain ⟨b', off', e, hb, hx⟩ := h.1 (by omega)
  injection e with e
  injection e with e1 e2
  subst e1 e2
  have := hx i hi 0 _ rfl
  rw [show KU.sz = 1 from rfl, Nat.mul_one, Nat.add_zero] at this
  exact ⟨this, hb⟩
section
variable {H : Type} {enc : TypeId × Value → H}
theorem open_u64r {W : World} {b0 : Nat} {v : Value} {d : DataW H} {p : List MemPlace} (hv : Value.okWide Tryz.prog W .any b0 51 v) (h : DataW.Trod enc Tryz.prog W 0 (fun _ => true) true 51 v d p) :
    ∃ (A : Option Addr) (L : List Nat) (c : Nat), v = .slice A L.length c ∧ (∀ i, i < L.length → L.getD i 0 < 18446744073709551616) ∧ RowV KU W A L c := by
  obtain ⟨a2, len2, cap2, rfl⟩ := okWide_slice Tryz.underlying51 hv
  obtain ⟨fuel, hf⟩ := h
  have hf2 : DataW.trod enc Tryz.prog W 0 (fun _ => true) true fuel 51 [.slice a2 len2 cap2] = some (d, p) := by simpa [Value.cells] using hf
  exact open_rowv ku_ok (fun z => z < 18446744073709551616) (by show Tryz.prog.cellsOf 25 = 1; kernel_rfl) (fun n cs y hy => by
    obtain ⟨z, e, -, hw⟩ := DataW.trod_int Tryz.underlying25 hy
    have hb := bounds_u64 hw
    obtain ⟨n, rfl⟩ := Int.eq_ofNat_of_zero_le hb.1
    exact ⟨n, e, by omega⟩) hf2
end
end Go.Proofs.YtlhoedpencmikaaGreatDoor
/- AdvSilent: what tables answers. -/
namespace Go.Proofs.YtlhoedpencmikaaGreatDoor
open Go.ChangeShapes Go.WideShapes Go.ChangeAt Go.RowKit
set_option linter.unusedVariables false
set_option linter.unusedSimpArgs false
set_option maxRecDepth 100000

theorem tm_bit (x k : Nat) : ((x : Int) / 2 ^ k).tmod 2 = ((x / 2 ^ k % 2 : Nat) : Int) := by
  rw [show ((2 : Int) ^ k) = ((2 ^ k : Nat) : Int) by simp, ← Int.natCast_ediv, Int.tmod_eq_emod_of_nonneg (Int.natCast_nonneg _)]
  simp
set_option maxHeartbeats 2000000 in
theorem tables17_c (S : Nat) (B : Option Addr) (n d a b : Nat) (a1 : a < 18446744073709551616) (b1 : b < 18446744073709551616) (hn : 0 < n) (hb : ∀ i, i % 8 ≠ 6 → b / 2 ^ i % 2 = a / 2 ^ i % 2) (w : World) :
    Calls Tryz.prog 22 #[.agg #[.int .u64 (S : Int), .slice B n d], .int .u64 (a : Int), .int .u64 (b : Int)] w fun r w' => r = .returned (.bool true) ∧ Ext w w' := by
  have h1 := Blk.new w 32 #[.int .u64 (S : Int), .slice B n d]
  have HE := Lib.hid ((Ext.refl w).alloc (.cells #[.int .u64 (S : Int), .slice B n d] 32))
  have hnz : decide (0 < (n : Int)) = true := by simp; omega
  go_enter Tryz.func22, Tryz.ntmps22
  go_wp2
  go_loopw [7] (fun v wr => ∃ k : Nat, k ≤ 64 ∧ v = .int .i64 k ∧ Hid (Ext w wr) ∧ Blk wr w.heap.size 32 #[.int .u64 (S : Int), .slice B n d]) (fun v _ => (64 - intOf v).toNat)
  case atStart => exact ⟨0, by omega, rfl, HE, h1⟩
  case round =>
    clear h1 HE
    obtain ⟨k, hk, rfl, HE, h1⟩ := hrel
    by_cases hlt : k < 64
    · have hkz : decide ((k : Int) < 64) = true := by simp; omega
      cases hT : (((a : Int) / 2 ^ k).tmod 2 != ((b : Int) / 2 ^ k).tmod 2)
      · go_wp2
        go_roundw
        case rel => exact ⟨k + 1, by omega, by go_num, HE, h1⟩
        case measure => simp [intOf]; omega
      · have h6 : k % 8 = 6 := by
          refine Classical.byContradiction fun hne => ?_
          rw [tm_bit, tm_bit, hb k hne] at hT
          simp at hT
        have hk6 : (((k : Int) % 8) != 6) = false := by simp; omega
        clear h6
        go_wp2
        go_roundw
        case rel => exact ⟨k + 1, by omega, by go_num, HE, h1⟩
        case measure => simp [intOf]; omega
    · have hkz : decide ((k : Int) < 64) = false := by simp; omega
      clear hk hlt hb
      have x1 := h1.cell 1
      go_wp2
      go_ret
      exact ⟨rfl, HE.out⟩
end Go.Proofs.YtlhoedpencmikaaGreatDoor
/- AdvSilent. -/
namespace Go.Proofs.YtlhoedpencmikaaGreatDoor
open Go.ChangeShapes Go.WideShapes Go.ChangeAt Go.RowKit
set_option linter.unusedVariables false
set_option linter.unusedSimpArgs false
set_option maxRecDepth 100000

/-- what holds of the hart and the memory, however often a translation was brought in -/
structure Goes (S : Nat) (M : List (Nat × Nat)) (h : Hr) (N : List (Nat × Nat)) (X : Hr) : Prop where
  st : Stays h X
  ok : X.ok
  sl : Sil S M N
  ag : agH S N X = true
theorem Goes.br {S : Nat} {M N : List (Nat × Nat)} {h X : Hr} (g : Goes S M h N X) (h8 : S % 8 = 0) {a : Nat} (ha : a < 18446744073709551616) : Goes S M h (brM S N X a) (brH S N X a) :=
  ⟨g.st.trans (br_stays g.st.r g.sl.is ha), br_ok g.st.r g.ok g.sl.is ha, g.sl.br h8 X a, br_ag g.st.r g.sl.is ha g.ag⟩
theorem Goes.ev {S : Nat} {M N : List (Nat × Nat)} {h X : Hr} (g : Goes S M h N X) (i v : Int) : Goes S M h N (evH X i v) :=
  ⟨g.st.trans (ev_stays g.st.r i v), ev_ok g.st.r g.ok i v, g.sl, ev_ag g.ag i v⟩
theorem Goes.pi {S : Nat} {M N : List (Nat × Nat)} {h X : Hr} (g : Goes S M h N X) {v : Int} (hv : -9223372036854775808 ≤ v ∧ v ≤ 9223372036854775807) : Goes S M h N (piH X v) :=
  ⟨g.st.trans (pi_stays g.st.r v), pi_ok g.st.r g.ok hv, g.sl, pi_ag g.ag v⟩
theorem Goes.len {S : Nat} {M N : List (Nat × Nat)} {h X : Hr} (g : Goes S M h N X) (hM : RL (S / 8) M) : N.length = M.length := len_same hM g.sl.is fun p => low_zero (g.sl.low p)
/-- where the hart and the memory lie -/
def SAt (S : Nat) (N : List (Nat × Nat)) (X : Hr) (A : Option Addr) (c : Nat) (h : Hr) (B : Option Addr) (M : List (Nat × Nat)) (d g4 g5 : Nat) (w wr : World) : Prop :=
  ∃ (A1 : Option Addr) (c1 : Nat) (B1 : Option Addr) (d1 : Nat), Blk wr g4 29 (hrC ⟨A1, c1, X⟩) ∧ Blk wr g5 32 #[.int .u64 (S : Int), .slice B1 N.length d1] ∧ RowV KS wr A1 X.L c1 ∧ Mem wr S B1 N d1 ∧
    Blk wr w.heap.size 29 (hrC ⟨A, c, h⟩) ∧ Blk wr (w.heap.size + 1) 32 #[.int .u64 (S : Int), .slice B M.length d] ∧ Ext w wr ∧ Out g4 (g5 + 1) B1 N.length
theorem SAt.ext {S : Nat} {N : List (Nat × Nat)} {X : Hr} {A : Option Addr} {c : Nat} {h : Hr} {B : Option Addr} {M : List (Nat × Nat)} {d g4 g5 : Nat} {w wr wx : World} (k : SAt S N X A c h B M d g4 g5 w wr) (hE : Ext wr wx) : SAt S N X A c h B M d g4 g5 w wx := by
  obtain ⟨A1, c1, B1, d1, k1, k2, k3, k4, k5, k6, k7, k8⟩ := k
  exact ⟨A1, c1, B1, d1, k1.ext hE, k2.ext hE, k3.ext hE, k4.ext hE, k5.ext hE, k6.ext hE, k7.trans hE, k8⟩
theorem sat_put {S : Nat} {N : List (Nat × Nat)} {X : Hr} {A : Option Addr} {c : Nat} {h : Hr} {B : Option Addr} {M : List (Nat × Nat)} {d g4 g5 : Nat} {w wr : World} {A1 : Option Addr} {c1 : Nat} {B1 : Option Addr} {d1 : Nat} {x y : Array Value}
    (h4 : Blk wr g4 29 x) (hx : x.size = 8) (h5 : Blk wr g5 32 y) (hy : y.size = 2) (hr : RowV KS wr A1 X.L c1) (hM : Mem wr S B1 N d1) (h1 : Blk wr w.heap.size 29 (hrC ⟨A, c, h⟩)) (h2 : Blk wr (w.heap.size + 1) 32 #[.int .u64 (S : Int), .slice B M.length d]) (hE : Ext w wr) (ho : Out g4 (g5 + 1) B1 N.length)
    (l1 : w.heap.size + 1 < g4) (l2 : g4 < g5) : SAt S N X A c h B M d g4 g5 w ((wr.setRow g4 (hrC ⟨A1, c1, X⟩)).setRow g5 #[.int .u64 (S : Int), .slice B1 N.length d1]) :=
  ⟨A1, c1, B1, d1, (h4.row _).apart (by omega) _, (h5.apart (by omega) _).row _, (hr.set h4 (by rw [hx]; decide) _).set (h5.apart (by omega) _) (by rw [hy]; decide) _, (hM.set (ho.one (by omega) (by omega)) _).set (ho.one (by omega) (by omega)) _, (h1.apart (by omega) _).apart (by omega) _, (h2.apart (by omega) _).apart (by omega) _, (hE.row (by omega) _).row (by omega) _, ho⟩
theorem sat_putH {S : Nat} {N : List (Nat × Nat)} {X : Hr} {A : Option Addr} {c : Nat} {h : Hr} {B : Option Addr} {M : List (Nat × Nat)} {d g4 g5 : Nat} {w wr : World} {A1 : Option Addr} {c1 : Nat} {B1 : Option Addr} {d1 : Nat} {x : Array Value}
    (h4 : Blk wr g4 29 x) (hx : x.size = 8) (h5 : Blk wr g5 32 #[.int .u64 (S : Int), .slice B1 N.length d1]) (hr : RowV KS wr A1 X.L c1) (hM : Mem wr S B1 N d1) (h1 : Blk wr w.heap.size 29 (hrC ⟨A, c, h⟩)) (h2 : Blk wr (w.heap.size + 1) 32 #[.int .u64 (S : Int), .slice B M.length d]) (hE : Ext w wr) (ho : Out g4 (g5 + 1) B1 N.length)
    (l1 : w.heap.size + 1 < g4) (l2 : g4 < g5) : SAt S N X A c h B M d g4 g5 w (wr.setRow g4 (hrC ⟨A1, c1, X⟩)) :=
  ⟨A1, c1, B1, d1, h4.row _, h5.apart (by omega) _, hr.set h4 (by rw [hx]; decide) _, hM.set (ho.one (by omega) (by omega)) _, h1.apart (by omega) _, h2.apart (by omega) _, hE.row (by omega) _, ho⟩
attribute [local irreducible] World.setRow World.alloc Blk
theorem acc_v64 (S : Nat) (M : List (Nat × Nat)) (h : Hr) (k a : Nat) {s : Nat} (hs : IsSize s) : (accR S M h k a s).v < 18446744073709551616 := by
  unfold accR
  split
  · split
    · split
      · split
        · exact Nat.zero_lt_succ _
        · exact loadL_64 _ _ (by rcases hs with rfl | rfl | rfl | rfl <;> decide)
      · exact Nat.zero_lt_succ _
    · exact Nat.zero_lt_succ _
  · exact Nat.zero_lt_succ _
set_option maxHeartbeats 8000000 in
theorem AdvSilent_w (C : AdvC) (caw : Awk17) (A : Option Addr) (h : Hr) (c S : Nat) (B : Option Addr) (M : List (Nat × Nat)) (d : Nat) (V : Option Addr) (L : List Nat) (e : Nat) (i y : Int) (n a z v : Nat) (hok : h.ok) (hS : S < 18446744073709551616) (hC : IsCells M) (hL : ∀ i, i < L.length → L.getD i 0 < 18446744073709551616) (i1 : -9223372036854775808 ≤ i ∧ i ≤ 9223372036854775807) (y1 : -9223372036854775808 ≤ y ∧ y ≤ 9223372036854775807) (n1 : n < 256) (a1 : a < 18446744073709551616) (z1 : z < 256) (v1 : v < 18446744073709551616) (w : World) (hr : RowV KS w A h.L c) (hm : RowL w B M d) (hu : RowV KU w V L e) (hT : Layh w) :
    Calls Tryz.prog 5 #[.agg (hrC ⟨A, c, h⟩), .agg #[.int .u64 (S : Int), .slice B M.length d], .slice V L.length e, .int .i64 i, .int .i64 y, .int .u8 (n : Int), .int .u64 (a : Int), .int .u8 (z : Int), .int .u64 (v : Int)] w fun r w' => r = .returned (.bool true) ∧ Ext w w' := by
  have h1 : Blk ((w.alloc (.cells (hrC ⟨A, c, h⟩) 29)).alloc (.cells #[.int .u64 (S : Int), .slice B M.length d] 32)) w.heap.size 29 (hrC ⟨A, c, h⟩) := (Blk.new w _ _).alloc _
  have h2 : Blk ((w.alloc (.cells (hrC ⟨A, c, h⟩) 29)).alloc (.cells #[.int .u64 (S : Int), .slice B M.length d] 32)) (w.heap.size + 1) 32 #[.int .u64 (S : Int), .slice B M.length d] := blk_at (by simp)
  have HE := Lib.hid (((Ext.refl w).alloc (.cells (hrC ⟨A, c, h⟩) 29)).alloc (.cells #[.int .u64 (S : Int), .slice B M.length d] 32))
  have hrow : ∀ W : World, Ext w W → RowV KS W A h.L c := fun W e => hr.ext e
  have hmm : ∀ W : World, Ext w W → RowL W B M d := fun W e => hm.ext e
  have hTE : ∀ W : World, Ext w W → Layh W := fun W e => hT.ext e
  have cft := fun W p q => fits17_c A h c S B M d hS hC W p q
  cases hF : fitH h S M
  · skip
    go_enter Tryz.func5, Tryz.ntmps5
    go_wp2_with (fail); refine (caw _ (hTE _ HE.out)).mono ?_; rintro e w' ⟨rfl, hE⟩; (try replace hb := hb.ext hE); (try replace hm := hm.ext hE); (try replace h1 := h1.ext hE); (try replace h2 := h2.ext hE); (try replace h4 := h4.ext hE); (try replace h5 := h5.ext hE); (try replace h8 := h8.ext hE); (try replace k1 := k1.ext hE); (try replace k2 := k2.ext hE); (try replace k3 := k3.ext hE); (try replace k4 := k4.ext hE); (try replace k5 := k5.ext hE); (try replace k6 := k6.ext hE); (try replace hN := hN.ext hE); (try replace hO := hO.ext hE); (try replace HE := Lib.hid (HE.out.trans hE)); (try replace r0 := r0.ext hE); (try replace r1 := r1.ext hE); (try replace r2 := r2.ext hE); (try replace r3 := r3.ext hE); (try replace r4 := r4.ext hE); (try replace r5 := r5.ext hE); (try replace r6 := r6.ext hE); clear hE
    go_wp2_with ((first | (refine wpList_load_blk (by rfl) 29 _ rfl rfl h1 Tryz.underlying29 rfl (by kernel_rfl) ?_) | (refine wpList_load_blk (by rfl) 32 _ rfl rfl h2 Tryz.underlying32 rfl (by kernel_rfl) ?_))); refine (cft _ (hrow _ HE.out) (hmm _ HE.out)).mono ?_; rintro e w' ⟨rfl, hE⟩; (try replace hb := hb.ext hE); (try replace hm := hm.ext hE); (try replace h1 := h1.ext hE); (try replace h2 := h2.ext hE); (try replace h4 := h4.ext hE); (try replace h5 := h5.ext hE); (try replace h8 := h8.ext hE); (try replace k1 := k1.ext hE); (try replace k2 := k2.ext hE); (try replace k3 := k3.ext hE); (try replace k4 := k4.ext hE); (try replace k5 := k5.ext hE); (try replace k6 := k6.ext hE); (try replace hN := hN.ext hE); (try replace hO := hO.ext hE); (try replace HE := Lib.hid (HE.out.trans hE)); (try replace r0 := r0.ext hE); (try replace r1 := r1.ext hE); (try replace r2 := r2.ext hE); (try replace r3 := r3.ext hE); (try replace r4 := r4.ext hE); (try replace r5 := r5.ext hE); (try replace r6 := r6.ext hE); clear hE
    rw [hF]
    clear cft
    go_wp2_with (fail); refine (caw _ (hTE _ HE.out)).mono ?_; rintro e w' ⟨rfl, hE⟩; (try replace hb := hb.ext hE); (try replace hm := hm.ext hE); (try replace h1 := h1.ext hE); (try replace h2 := h2.ext hE); (try replace h4 := h4.ext hE); (try replace h5 := h5.ext hE); (try replace h8 := h8.ext hE); (try replace k1 := k1.ext hE); (try replace k2 := k2.ext hE); (try replace k3 := k3.ext hE); (try replace k4 := k4.ext hE); (try replace k5 := k5.ext hE); (try replace k6 := k6.ext hE); (try replace hN := hN.ext hE); (try replace hO := hO.ext hE); (try replace HE := Lib.hid (HE.out.trans hE)); (try replace r0 := r0.ext hE); (try replace r1 := r1.ext hE); (try replace r2 := r2.ext hE); (try replace r3 := r3.ext hE); (try replace r4 := r4.ext hE); (try replace r5 := r5.ext hE); (try replace r6 := r6.ext hE); clear hE
    go_wp2
    go_ret
    exact ⟨rfl, HE.out⟩
  obtain ⟨-, fr, f3, -⟩ := fit_h hF
  obtain ⟨frt, fsm, -⟩ := right_split fr
  have hMm : ∀ W : World, Ext w W → Mem W S B M d := fun W e => fit_m hF hC (hmm W e)
  rcases sm_on fsm with hmd | hmd
  · have d0 : ((h.sp.md : Int) == 0) = true := by rw [hmd]; rfl
    go_enter Tryz.func5, Tryz.ntmps5
    go_wp2_with (fail); refine (caw _ (hTE _ HE.out)).mono ?_; rintro e w' ⟨rfl, hE⟩; (try replace hb := hb.ext hE); (try replace hm := hm.ext hE); (try replace h1 := h1.ext hE); (try replace h2 := h2.ext hE); (try replace h4 := h4.ext hE); (try replace h5 := h5.ext hE); (try replace h8 := h8.ext hE); (try replace k1 := k1.ext hE); (try replace k2 := k2.ext hE); (try replace k3 := k3.ext hE); (try replace k4 := k4.ext hE); (try replace k5 := k5.ext hE); (try replace k6 := k6.ext hE); (try replace hN := hN.ext hE); (try replace hO := hO.ext hE); (try replace HE := Lib.hid (HE.out.trans hE)); (try replace r0 := r0.ext hE); (try replace r1 := r1.ext hE); (try replace r2 := r2.ext hE); (try replace r3 := r3.ext hE); (try replace r4 := r4.ext hE); (try replace r5 := r5.ext hE); (try replace r6 := r6.ext hE); clear hE
    go_wp2_with ((first | (refine wpList_load_blk (by rfl) 29 _ rfl rfl h1 Tryz.underlying29 rfl (by kernel_rfl) ?_) | (refine wpList_load_blk (by rfl) 32 _ rfl rfl h2 Tryz.underlying32 rfl (by kernel_rfl) ?_))); refine (cft _ (hrow _ HE.out) (hmm _ HE.out)).mono ?_; rintro e w' ⟨rfl, hE⟩; (try replace hb := hb.ext hE); (try replace hm := hm.ext hE); (try replace h1 := h1.ext hE); (try replace h2 := h2.ext hE); (try replace h4 := h4.ext hE); (try replace h5 := h5.ext hE); (try replace h8 := h8.ext hE); (try replace k1 := k1.ext hE); (try replace k2 := k2.ext hE); (try replace k3 := k3.ext hE); (try replace k4 := k4.ext hE); (try replace k5 := k5.ext hE); (try replace k6 := k6.ext hE); (try replace hN := hN.ext hE); (try replace hO := hO.ext hE); (try replace HE := Lib.hid (HE.out.trans hE)); (try replace r0 := r0.ext hE); (try replace r1 := r1.ext hE); (try replace r2 := r2.ext hE); (try replace r3 := r3.ext hE); (try replace r4 := r4.ext hE); (try replace r5 := r5.ext hE); (try replace r6 := r6.ext hE); clear hE
    rw [hF]
    clear cft
    have x1 := h1.hr.md
    go_wp2_with (fail); refine (caw _ (hTE _ HE.out)).mono ?_; rintro e w' ⟨rfl, hE⟩; (try replace hb := hb.ext hE); (try replace hm := hm.ext hE); (try replace h1 := h1.ext hE); (try replace h2 := h2.ext hE); (try replace h4 := h4.ext hE); (try replace h5 := h5.ext hE); (try replace h8 := h8.ext hE); (try replace k1 := k1.ext hE); (try replace k2 := k2.ext hE); (try replace k3 := k3.ext hE); (try replace k4 := k4.ext hE); (try replace k5 := k5.ext hE); (try replace k6 := k6.ext hE); (try replace hN := hN.ext hE); (try replace hO := hO.ext hE); (try replace HE := Lib.hid (HE.out.trans hE)); (try replace r0 := r0.ext hE); (try replace r1 := r1.ext hE); (try replace r2 := r2.ext hE); (try replace r3 := r3.ext hE); (try replace r4 := r4.ext hE); (try replace r5 := r5.ext hE); (try replace r6 := r6.ext hE); clear hE
    go_wp2
    go_ret
    exact ⟨rfl, HE.out⟩
  have d0 : ((h.sp.md : Int) == 0) = false := by rw [hmd]; rfl
  have crg := fun W p q => ragrees16_c A h c S B M d frt (sm_fits fsm).2.2 W p q
  cases hag : agH S M h
  · skip
    go_enter Tryz.func5, Tryz.ntmps5
    go_wp2_with (fail); refine (caw _ (hTE _ HE.out)).mono ?_; rintro e w' ⟨rfl, hE⟩; (try replace hb := hb.ext hE); (try replace hm := hm.ext hE); (try replace h1 := h1.ext hE); (try replace h2 := h2.ext hE); (try replace h4 := h4.ext hE); (try replace h5 := h5.ext hE); (try replace h8 := h8.ext hE); (try replace k1 := k1.ext hE); (try replace k2 := k2.ext hE); (try replace k3 := k3.ext hE); (try replace k4 := k4.ext hE); (try replace k5 := k5.ext hE); (try replace k6 := k6.ext hE); (try replace hN := hN.ext hE); (try replace hO := hO.ext hE); (try replace HE := Lib.hid (HE.out.trans hE)); (try replace r0 := r0.ext hE); (try replace r1 := r1.ext hE); (try replace r2 := r2.ext hE); (try replace r3 := r3.ext hE); (try replace r4 := r4.ext hE); (try replace r5 := r5.ext hE); (try replace r6 := r6.ext hE); clear hE
    go_wp2_with ((first | (refine wpList_load_blk (by rfl) 29 _ rfl rfl h1 Tryz.underlying29 rfl (by kernel_rfl) ?_) | (refine wpList_load_blk (by rfl) 32 _ rfl rfl h2 Tryz.underlying32 rfl (by kernel_rfl) ?_))); refine (cft _ (hrow _ HE.out) (hmm _ HE.out)).mono ?_; rintro e w' ⟨rfl, hE⟩; (try replace hb := hb.ext hE); (try replace hm := hm.ext hE); (try replace h1 := h1.ext hE); (try replace h2 := h2.ext hE); (try replace h4 := h4.ext hE); (try replace h5 := h5.ext hE); (try replace h8 := h8.ext hE); (try replace k1 := k1.ext hE); (try replace k2 := k2.ext hE); (try replace k3 := k3.ext hE); (try replace k4 := k4.ext hE); (try replace k5 := k5.ext hE); (try replace k6 := k6.ext hE); (try replace hN := hN.ext hE); (try replace hO := hO.ext hE); (try replace HE := Lib.hid (HE.out.trans hE)); (try replace r0 := r0.ext hE); (try replace r1 := r1.ext hE); (try replace r2 := r2.ext hE); (try replace r3 := r3.ext hE); (try replace r4 := r4.ext hE); (try replace r5 := r5.ext hE); (try replace r6 := r6.ext hE); clear hE
    rw [hF]
    clear cft
    have x1 := h1.hr.md
    go_wp2_with ((first | (refine wpList_load_blk (by rfl) 29 _ rfl rfl h1 Tryz.underlying29 rfl (by kernel_rfl) ?_) | (refine wpList_load_blk (by rfl) 32 _ rfl rfl h2 Tryz.underlying32 rfl (by kernel_rfl) ?_))); refine (crg _ (hrow _ HE.out) (hMm _ HE.out)).mono ?_; rintro e w' ⟨rfl, hE⟩; (try replace hb := hb.ext hE); (try replace hm := hm.ext hE); (try replace h1 := h1.ext hE); (try replace h2 := h2.ext hE); (try replace h4 := h4.ext hE); (try replace h5 := h5.ext hE); (try replace h8 := h8.ext hE); (try replace k1 := k1.ext hE); (try replace k2 := k2.ext hE); (try replace k3 := k3.ext hE); (try replace k4 := k4.ext hE); (try replace k5 := k5.ext hE); (try replace k6 := k6.ext hE); (try replace hN := hN.ext hE); (try replace hO := hO.ext hE); (try replace HE := Lib.hid (HE.out.trans hE)); (try replace r0 := r0.ext hE); (try replace r1 := r1.ext hE); (try replace r2 := r2.ext hE); (try replace r3 := r3.ext hE); (try replace r4 := r4.ext hE); (try replace r5 := r5.ext hE); (try replace r6 := r6.ext hE); clear hE
    clear x1 crg
    rw [hag]
    go_wp2_with (fail); refine (caw _ (hTE _ HE.out)).mono ?_; rintro e w' ⟨rfl, hE⟩; (try replace hb := hb.ext hE); (try replace hm := hm.ext hE); (try replace h1 := h1.ext hE); (try replace h2 := h2.ext hE); (try replace h4 := h4.ext hE); (try replace h5 := h5.ext hE); (try replace h8 := h8.ext hE); (try replace k1 := k1.ext hE); (try replace k2 := k2.ext hE); (try replace k3 := k3.ext hE); (try replace k4 := k4.ext hE); (try replace k5 := k5.ext hE); (try replace k6 := k6.ext hE); (try replace hN := hN.ext hE); (try replace hO := hO.ext hE); (try replace HE := Lib.hid (HE.out.trans hE)); (try replace r0 := r0.ext hE); (try replace r1 := r1.ext hE); (try replace r2 := r2.ext hE); (try replace r3 := r3.ext hE); (try replace r4 := r4.ext hE); (try replace r5 := r5.ext hE); (try replace r6 := r6.ext hE); clear hE
    go_wp2
    go_ret
    exact ⟨rfl, HE.out⟩
  by_cases h20 : L.length ≤ 20
  case neg =>
    have d2 : decide (20 < (L.length : Int)) = true := by simp; omega
    go_enter Tryz.func5, Tryz.ntmps5
    go_wp2_with (fail); refine (caw _ (hTE _ HE.out)).mono ?_; rintro e w' ⟨rfl, hE⟩; (try replace hb := hb.ext hE); (try replace hm := hm.ext hE); (try replace h1 := h1.ext hE); (try replace h2 := h2.ext hE); (try replace h4 := h4.ext hE); (try replace h5 := h5.ext hE); (try replace h8 := h8.ext hE); (try replace k1 := k1.ext hE); (try replace k2 := k2.ext hE); (try replace k3 := k3.ext hE); (try replace k4 := k4.ext hE); (try replace k5 := k5.ext hE); (try replace k6 := k6.ext hE); (try replace hN := hN.ext hE); (try replace hO := hO.ext hE); (try replace HE := Lib.hid (HE.out.trans hE)); (try replace r0 := r0.ext hE); (try replace r1 := r1.ext hE); (try replace r2 := r2.ext hE); (try replace r3 := r3.ext hE); (try replace r4 := r4.ext hE); (try replace r5 := r5.ext hE); (try replace r6 := r6.ext hE); clear hE
    go_wp2_with ((first | (refine wpList_load_blk (by rfl) 29 _ rfl rfl h1 Tryz.underlying29 rfl (by kernel_rfl) ?_) | (refine wpList_load_blk (by rfl) 32 _ rfl rfl h2 Tryz.underlying32 rfl (by kernel_rfl) ?_))); refine (cft _ (hrow _ HE.out) (hmm _ HE.out)).mono ?_; rintro e w' ⟨rfl, hE⟩; (try replace hb := hb.ext hE); (try replace hm := hm.ext hE); (try replace h1 := h1.ext hE); (try replace h2 := h2.ext hE); (try replace h4 := h4.ext hE); (try replace h5 := h5.ext hE); (try replace h8 := h8.ext hE); (try replace k1 := k1.ext hE); (try replace k2 := k2.ext hE); (try replace k3 := k3.ext hE); (try replace k4 := k4.ext hE); (try replace k5 := k5.ext hE); (try replace k6 := k6.ext hE); (try replace hN := hN.ext hE); (try replace hO := hO.ext hE); (try replace HE := Lib.hid (HE.out.trans hE)); (try replace r0 := r0.ext hE); (try replace r1 := r1.ext hE); (try replace r2 := r2.ext hE); (try replace r3 := r3.ext hE); (try replace r4 := r4.ext hE); (try replace r5 := r5.ext hE); (try replace r6 := r6.ext hE); clear hE
    rw [hF]
    clear cft
    have x1 := h1.hr.md
    go_wp2_with ((first | (refine wpList_load_blk (by rfl) 29 _ rfl rfl h1 Tryz.underlying29 rfl (by kernel_rfl) ?_) | (refine wpList_load_blk (by rfl) 32 _ rfl rfl h2 Tryz.underlying32 rfl (by kernel_rfl) ?_))); refine (crg _ (hrow _ HE.out) (hMm _ HE.out)).mono ?_; rintro e w' ⟨rfl, hE⟩; (try replace hb := hb.ext hE); (try replace hm := hm.ext hE); (try replace h1 := h1.ext hE); (try replace h2 := h2.ext hE); (try replace h4 := h4.ext hE); (try replace h5 := h5.ext hE); (try replace h8 := h8.ext hE); (try replace k1 := k1.ext hE); (try replace k2 := k2.ext hE); (try replace k3 := k3.ext hE); (try replace k4 := k4.ext hE); (try replace k5 := k5.ext hE); (try replace k6 := k6.ext hE); (try replace hN := hN.ext hE); (try replace hO := hO.ext hE); (try replace HE := Lib.hid (HE.out.trans hE)); (try replace r0 := r0.ext hE); (try replace r1 := r1.ext hE); (try replace r2 := r2.ext hE); (try replace r3 := r3.ext hE); (try replace r4 := r4.ext hE); (try replace r5 := r5.ext hE); (try replace r6 := r6.ext hE); clear hE
    clear x1 crg
    rw [hag]
    go_wp2_with (fail); refine (caw _ (hTE _ HE.out)).mono ?_; rintro e w' ⟨rfl, hE⟩; (try replace hb := hb.ext hE); (try replace hm := hm.ext hE); (try replace h1 := h1.ext hE); (try replace h2 := h2.ext hE); (try replace h4 := h4.ext hE); (try replace h5 := h5.ext hE); (try replace h8 := h8.ext hE); (try replace k1 := k1.ext hE); (try replace k2 := k2.ext hE); (try replace k3 := k3.ext hE); (try replace k4 := k4.ext hE); (try replace k5 := k5.ext hE); (try replace k6 := k6.ext hE); (try replace hN := hN.ext hE); (try replace hO := hO.ext hE); (try replace HE := Lib.hid (HE.out.trans hE)); (try replace r0 := r0.ext hE); (try replace r1 := r1.ext hE); (try replace r2 := r2.ext hE); (try replace r3 := r3.ext hE); (try replace r4 := r4.ext hE); (try replace r5 := r5.ext hE); (try replace r6 := r6.ext hE); clear hE
    go_wp2
    go_ret
    exact ⟨rfl, HE.out⟩
  have d2 : decide (20 < (L.length : Int)) = false := by simp; omega
  have hM0 := hMm w (Ext.refl _)
  have hRL := hM0.rl
  have h8 := hM0.ok.mod8
  clear hM0
  have g0 : Goes S M h M h := ⟨Stays.refl fr, hok, Sil.refl hRL, hag⟩
  go_enter Tryz.func5, Tryz.ntmps5
  go_wp2_with (fail); refine (caw _ (hTE _ HE.out)).mono ?_; rintro e w' ⟨rfl, hE⟩; (try replace hb := hb.ext hE); (try replace hm := hm.ext hE); (try replace h1 := h1.ext hE); (try replace h2 := h2.ext hE); (try replace h4 := h4.ext hE); (try replace h5 := h5.ext hE); (try replace h8 := h8.ext hE); (try replace k1 := k1.ext hE); (try replace k2 := k2.ext hE); (try replace k3 := k3.ext hE); (try replace k4 := k4.ext hE); (try replace k5 := k5.ext hE); (try replace k6 := k6.ext hE); (try replace hN := hN.ext hE); (try replace hO := hO.ext hE); (try replace HE := Lib.hid (HE.out.trans hE)); (try replace r0 := r0.ext hE); (try replace r1 := r1.ext hE); (try replace r2 := r2.ext hE); (try replace r3 := r3.ext hE); (try replace r4 := r4.ext hE); (try replace r5 := r5.ext hE); (try replace r6 := r6.ext hE); clear hE
  go_wp2_with ((first | (refine wpList_load_blk (by rfl) 29 _ rfl rfl h1 Tryz.underlying29 rfl (by kernel_rfl) ?_) | (refine wpList_load_blk (by rfl) 32 _ rfl rfl h2 Tryz.underlying32 rfl (by kernel_rfl) ?_))); refine (cft _ (hrow _ HE.out) (hmm _ HE.out)).mono ?_; rintro e w' ⟨rfl, hE⟩; (try replace hb := hb.ext hE); (try replace hm := hm.ext hE); (try replace h1 := h1.ext hE); (try replace h2 := h2.ext hE); (try replace h4 := h4.ext hE); (try replace h5 := h5.ext hE); (try replace h8 := h8.ext hE); (try replace k1 := k1.ext hE); (try replace k2 := k2.ext hE); (try replace k3 := k3.ext hE); (try replace k4 := k4.ext hE); (try replace k5 := k5.ext hE); (try replace k6 := k6.ext hE); (try replace hN := hN.ext hE); (try replace hO := hO.ext hE); (try replace HE := Lib.hid (HE.out.trans hE)); (try replace r0 := r0.ext hE); (try replace r1 := r1.ext hE); (try replace r2 := r2.ext hE); (try replace r3 := r3.ext hE); (try replace r4 := r4.ext hE); (try replace r5 := r5.ext hE); (try replace r6 := r6.ext hE); clear hE
  rw [hF]
  clear cft
  have x1 := h1.hr.md
  go_wp2_with ((first | (refine wpList_load_blk (by rfl) 29 _ rfl rfl h1 Tryz.underlying29 rfl (by kernel_rfl) ?_) | (refine wpList_load_blk (by rfl) 32 _ rfl rfl h2 Tryz.underlying32 rfl (by kernel_rfl) ?_))); refine (crg _ (hrow _ HE.out) (hMm _ HE.out)).mono ?_; rintro e w' ⟨rfl, hE⟩; (try replace hb := hb.ext hE); (try replace hm := hm.ext hE); (try replace h1 := h1.ext hE); (try replace h2 := h2.ext hE); (try replace h4 := h4.ext hE); (try replace h5 := h5.ext hE); (try replace h8 := h8.ext hE); (try replace k1 := k1.ext hE); (try replace k2 := k2.ext hE); (try replace k3 := k3.ext hE); (try replace k4 := k4.ext hE); (try replace k5 := k5.ext hE); (try replace k6 := k6.ext hE); (try replace hN := hN.ext hE); (try replace hO := hO.ext hE); (try replace HE := Lib.hid (HE.out.trans hE)); (try replace r0 := r0.ext hE); (try replace r1 := r1.ext hE); (try replace r2 := r2.ext hE); (try replace r3 := r3.ext hE); (try replace r4 := r4.ext hE); (try replace r5 := r5.ext hE); (try replace r6 := r6.ext hE); clear hE
  clear x1 crg
  rw [hag]
  have h1k := h1
  have h2k := h2
  obtain ⟨zz1, hE, h4⟩ := nh1 w' (hrC ⟨A, c, h⟩); (try replace hb := hb.ext hE); (try replace hm := hm.ext hE); (try replace h1 := h1.ext hE); (try replace h2 := h2.ext hE); (try replace h4 := h4.ext hE); (try replace h5 := h5.ext hE); (try replace h8 := h8.ext hE); (try replace k1 := k1.ext hE); (try replace k2 := k2.ext hE); (try replace k3 := k3.ext hE); (try replace k4 := k4.ext hE); (try replace k5 := k5.ext hE); (try replace k6 := k6.ext hE); (try replace hN := hN.ext hE); (try replace hO := hO.ext hE); (try replace HE := Lib.hid (HE.out.trans hE)); (try replace r0 := r0.ext hE); (try replace r1 := r1.ext hE); (try replace r2 := r2.ext hE); (try replace r3 := r3.ext hE); (try replace r4 := r4.ext hE); (try replace r5 := r5.ext hE); (try replace r6 := r6.ext hE); clear hE
  have hg0 : w.heap.size + 1 < w'.heap.size := by
    exact h2k.lt
  go_upto_region 4 with (first | ((refine wpList_store_blk rfl 29 _ _ rfl rfl rfl zz1 (hr_info _) (by simp [hrC_size]) (hrC_one _) ?_); clear zz1; generalize (w'.alloc (.cells #[.slice none 0 0, .int .u64 0, .int .u64 0, .int .u64 0, .int .i64 0, .bool false, .bool false, .int .i64 0] 29)).setRow w'.heap.size (hrC ⟨A, c, h⟩) = X at *) | (refine wpList_load_blk (by rfl) 29 _ rfl rfl h1k Tryz.underlying29 rfl (by kernel_rfl) ?_))
  (try simp only [Act.put, List.setIfInBounds_toArray, List.set_cons_zero, List.set_cons_succ])
  clear h1k h2k
  have hgX := h4.lt
  have h2k := h2
  have zz1 := Blk.new X 32 #[.int .u64 0, .slice none 0 0]
  have hE := ((Ext.refl X).alloc (.cells #[.int .u64 0, .slice none 0 0] 32)).row (Nat.le_refl _) #[.int .u64 (S : Int), .slice B M.length d]
  (try replace hb := hb.ext hE); (try replace hm := hm.ext hE); (try replace h1 := h1.ext hE); (try replace h2 := h2.ext hE); (try replace h4 := h4.ext hE); (try replace h5 := h5.ext hE); (try replace h8 := h8.ext hE); (try replace k1 := k1.ext hE); (try replace k2 := k2.ext hE); (try replace k3 := k3.ext hE); (try replace k4 := k4.ext hE); (try replace k5 := k5.ext hE); (try replace k6 := k6.ext hE); (try replace hN := hN.ext hE); (try replace hO := hO.ext hE); (try replace HE := Lib.hid (HE.out.trans hE)); (try replace r0 := r0.ext hE); (try replace r1 := r1.ext hE); (try replace r2 := r2.ext hE); (try replace r3 := r3.ext hE); (try replace r4 := r4.ext hE); (try replace r5 := r5.ext hE); (try replace r6 := r6.ext hE)
  clear hE
  have h5 := zz1.row #[.int .u64 (S : Int), .slice B M.length d]
  go_upto_region 5 with (first | (refine wpList_load_blk (by rfl) 32 _ rfl rfl h2k Tryz.underlying32 rfl (by kernel_rfl) ?_) | ((refine wpList_store_blk rfl 32 _ _ rfl rfl rfl zz1 (by kernel_rfl) (by rfl) (by simp [Value.oneCell']) ?_); clear zz1; generalize (X.alloc (.cells #[.int .u64 0, .slice none 0 0] 32)).setRow X.heap.size #[.int .u64 (S : Int), .slice B M.length d] = Y at *))
  (try simp only [Act.put, List.setIfInBounds_toArray, List.set_cons_zero, List.set_cons_succ])
  clear h2k
  have hM0 := hMm w (Ext.refl _)
  have hoM : Out w'.heap.size (X.heap.size + 1) B M.length := fun q hl hq => by
    rcases hM0.out (X.heap.size + 1) q hl hq with hh | hh <;> omega
  have hA0 : SAt S M h A c h B M d w'.heap.size X.heap.size w Y := ⟨A, c, B, d, h4, h5, hrow _ HE.out, hMm _ HE.out, h1, h2, HE.out, hoM⟩
  generalize w'.heap.size = g4 at *
  generalize X.heap.size = g5 at *
  clear hM0 hoM h1 h2 h4 h5 HE
  go_wp2
  go_loopw [21] (fun v wr => ∃ (k : Nat) (N : List (Nat × Nat)) (X : Hr), k ≤ L.length ∧ v = .int .i64 k ∧ Goes S M h N X ∧ SAt S N X A c h B M d g4 g5 w wr) (fun v _ => (L.length - intOf v).toNat)
  case atStart => exact ⟨0, M, h, by omega, rfl, g0, hA0⟩
  case round =>
    clear hA0 g0
    obtain ⟨k, N, X, hk, rfl, G, hA⟩ := hrel
    by_cases hlt : k < L.length
    · have hkz : (k : Int) < (L.length : Int) := by omega
      obtain ⟨A1, cc1, B1, dd1, h4, h5, r1, hN, h1, h2, hEE, ho⟩ := hA
      have HE := Lib.hid hEE
      clear hEE
      obtain ⟨b, off, rfl, hb, -⟩ := (hu.ext HE.out).some (by omega)
      have hul := (ku_at hu hlt).1
      have hbl := (ku_at hu hlt).2
      have hu1 := hL k hlt
      generalize L.getD k 0 = u at *
      have hNl := G.len hRL
      have cbr := fun W r m t => C.bring A1 X cc1 S B1 N dd1 u (k % 3) W G.st.r G.ok (by omega) hu1 r m (by omega) t
      unfold BrT at cbr
      simp only [show ((k % 3 : Nat) : Int) = (k : Int) % 3 by omega] at cbr
      go_wp2_with fail
      go_cut [] from 57 to 90 (fun wx => SAt S (brM S N X u) (brH S N X u) A c h B M d g4 g5 w wx)
      case first =>
        go_wp2_with fail
        (try replace hb := Blk.drew hb); (try replace hm := Blk.drew hm); (try replace h1 := Blk.drew h1); (try replace h2 := Blk.drew h2); (try replace h4 := Blk.drew h4); (try replace h5 := Blk.drew h5); (try replace h8 := Blk.drew h8); (try replace k1 := Blk.drew k1); (try replace k2 := Blk.drew k2); (try replace k3 := Blk.drew k3); (try replace k4 := Blk.drew k4); (try replace k5 := Blk.drew k5); (try replace k6 := Blk.drew k6); replace HE := Lib.hid HE.out.drew
        replace r1 := r1.ext (Ext.refl _).drew
        replace hN := hN.ext (Ext.refl _).drew
        refine wp_region_fork [(2, false), (3, false), (4, false), (5, false), (6, false), (7, false)] 0 [(1, true), (8, true), (9, false), (10, false), (11, false), (12, true), (13, true)] 1 [(0, true), (8, true), (9, false), (10, false), (11, false), (12, true), (13, true)] (Gap g4 (g5 + 1)) (by kernel_rfl) (by kernel_rfl) (Gap.refl _ _) (fun _ _ _ => Gap.trans) ?_
        simp only [List.map, nth_z, nth_s]
        (repeat (first | (refine seq_skip (by rfl) ?_; intro K hK; simp only [Act.put, List.setIfInBounds_toArray, List.set_cons_zero, List.set_cons_succ]; refine hK _ ?_; clear hK K) | (refine seq_skipc (by rfl) ?_; intro K hK; simp only [Act.put, List.setIfInBounds_toArray, List.set_cons_zero, List.set_cons_succ]; refine hK _ ?_; clear hK K) | (refine seq_read (by rfl) (by rfl) ?_; intro K hK; go_big_quiet_op; first | go_big_quiet_on | (refine ⟨_, fun _ _ => rfl, ?_⟩; go_big_quiet_on)) | (refine seq_nil rfl rfl (by rfl) ?_; intro K hK; simp only [Act.put, List.setIfInBounds_toArray, List.set_cons_zero, List.set_cons_succ]; refine hK _ ?_; clear hK K)))
        refine seq_value (.int .u64 (u : Int)) (by rfl) (fun x hx => by have hq := (gap_cell hx (ext_cell HE.out hul) (by omega)); simp [go_sem, execOp, Act.eval, hq]) ?_; intro K hK; simp only [Act.put, List.setIfInBounds_toArray, List.set_cons_zero, List.set_cons_succ]; refine hK _ ?_; clear hK K
        (repeat (first | (refine seq_skip (by rfl) ?_; intro K hK; simp only [Act.put, List.setIfInBounds_toArray, List.set_cons_zero, List.set_cons_succ]; refine hK _ ?_; clear hK K) | (refine seq_skipc (by rfl) ?_; intro K hK; simp only [Act.put, List.setIfInBounds_toArray, List.set_cons_zero, List.set_cons_succ]; refine hK _ ?_; clear hK K) | (refine seq_read (by rfl) (by rfl) ?_; intro K hK; go_big_quiet_op; first | go_big_quiet_on | (refine ⟨_, fun _ _ => rfl, ?_⟩; go_big_quiet_on)) | (refine seq_nil rfl rfl (by rfl) ?_; intro K hK; simp only [Act.put, List.setIfInBounds_toArray, List.set_cons_zero, List.set_cons_succ]; refine hK _ ?_; clear hK K)))
        refine seq_done ?_
        refine ⟨?_, ?_⟩
        · skip
          refine seq_load_now rfl rfl (h4) rfl Tryz.underlying29 (hr_info _) (by rfl) (Gap.refl _ _ _) ?_; intro K hK; simp only [Act.put, List.setIfInBounds_toArray, List.set_cons_zero, List.set_cons_succ]; refine hK _ _ ?_; clear hK K
          refine seq_load_now rfl rfl (h5) rfl Tryz.underlying32 (me_info _ _ _ _) (by rfl) (Gap.refl _ _ _) ?_; intro K hK; simp only [Act.put, List.setIfInBounds_toArray, List.set_cons_zero, List.set_cons_succ]; refine hK _ _ ?_; clear hK K
          refine seq_call (cbr _ r1 hN (hTE _ HE.out)) rfl Tryz.func8 (by kernel_rfl) (by kernel_rfl) (by rfl) (by rfl) ?_; intro K hK; rintro e w' ⟨A3, B3, cc3, dd3, rfl, r3, hO, hE, hol⟩; refine ⟨_, rfl, (Gap.ext hE), ?_⟩; simp only [Act.put, List.setIfInBounds_toArray, List.set_cons_zero, List.set_cons_succ]; refine hK _ _ ?_; clear hK K
          replace ho := hol g4 (g5 + 1) (by have := h5.lt; omega) ho
          replace h1 := h1.ext hE
          replace h2 := h2.ext hE
          replace h4 := h4.ext hE
          replace h5 := h5.ext hE
          replace HE := Lib.hid (HE.out.trans hE)
          clear hE hol
          (repeat (first | (refine seq_skip (by rfl) ?_; intro K hK; simp only [Act.put, List.setIfInBounds_toArray, List.set_cons_zero, List.set_cons_succ]; refine hK _ ?_; clear hK K) | (refine seq_skipc (by rfl) ?_; intro K hK; simp only [Act.put, List.setIfInBounds_toArray, List.set_cons_zero, List.set_cons_succ]; refine hK _ ?_; clear hK K) | (refine seq_read (by rfl) (by rfl) ?_; intro K hK; go_big_quiet_op; first | go_big_quiet_on | (refine ⟨_, fun _ _ => rfl, ?_⟩; go_big_quiet_on)) | (refine seq_nil rfl rfl (by rfl) ?_; intro K hK; simp only [Act.put, List.setIfInBounds_toArray, List.set_cons_zero, List.set_cons_succ]; refine hK _ ?_; clear hK K)))
          refine seq_store_row rfl rfl rfl (h4) (hr_info _) (by simp [hrC_size]) (hrC_one _) (by rfl) (Gap.row _ (by omega) (by omega) _) ?_; intro K hK; simp only [Act.put, List.setIfInBounds_toArray, List.set_cons_zero, List.set_cons_succ]; refine hK _ _ ?_; clear hK K
          refine seq_store_row rfl rfl rfl ((h5.apart (by omega) _)) (by kernel_rfl) (by rfl) (by simp [Value.oneCell']) (by rfl) (Gap.row _ (by omega) (by omega) _) ?_; intro K hK; simp only [Act.put, List.setIfInBounds_toArray, List.set_cons_zero, List.set_cons_succ]; refine hK _ _ ?_; clear hK K
          refine seq_done ?_
          go_wp2_with fail
          go_meet
          case rel => exact sat_put h4 (hrC_size _) h5 rfl r3 hO h1 h2 HE.out ho hg0 hgX
        · skip
          refine seq_load_now rfl rfl (h5) rfl Tryz.underlying32 (me_info _ _ _ _) (by rfl) (Gap.refl _ _ _) ?_; intro K hK; simp only [Act.put, List.setIfInBounds_toArray, List.set_cons_zero, List.set_cons_succ]; refine hK _ _ ?_; clear hK K
          refine seq_load_now rfl rfl (h4) rfl Tryz.underlying29 (hr_info _) (by rfl) (Gap.refl _ _ _) ?_; intro K hK; simp only [Act.put, List.setIfInBounds_toArray, List.set_cons_zero, List.set_cons_succ]; refine hK _ _ ?_; clear hK K
          refine seq_call (cbr _ r1 hN (hTE _ HE.out)) rfl Tryz.func8 (by kernel_rfl) (by kernel_rfl) (by rfl) (by rfl) ?_; intro K hK; rintro e w' ⟨A3, B3, cc3, dd3, rfl, r3, hO, hE, hol⟩; refine ⟨_, rfl, (Gap.ext hE), ?_⟩; simp only [Act.put, List.setIfInBounds_toArray, List.set_cons_zero, List.set_cons_succ]; refine hK _ _ ?_; clear hK K
          replace ho := hol g4 (g5 + 1) (by have := h5.lt; omega) ho
          replace h1 := h1.ext hE
          replace h2 := h2.ext hE
          replace h4 := h4.ext hE
          replace h5 := h5.ext hE
          replace HE := Lib.hid (HE.out.trans hE)
          clear hE hol
          (repeat (first | (refine seq_skip (by rfl) ?_; intro K hK; simp only [Act.put, List.setIfInBounds_toArray, List.set_cons_zero, List.set_cons_succ]; refine hK _ ?_; clear hK K) | (refine seq_skipc (by rfl) ?_; intro K hK; simp only [Act.put, List.setIfInBounds_toArray, List.set_cons_zero, List.set_cons_succ]; refine hK _ ?_; clear hK K) | (refine seq_read (by rfl) (by rfl) ?_; intro K hK; go_big_quiet_op; first | go_big_quiet_on | (refine ⟨_, fun _ _ => rfl, ?_⟩; go_big_quiet_on)) | (refine seq_nil rfl rfl (by rfl) ?_; intro K hK; simp only [Act.put, List.setIfInBounds_toArray, List.set_cons_zero, List.set_cons_succ]; refine hK _ ?_; clear hK K)))
          refine seq_store_row rfl rfl rfl (h4) (hr_info _) (by simp [hrC_size]) (hrC_one _) (by rfl) (Gap.row _ (by omega) (by omega) _) ?_; intro K hK; simp only [Act.put, List.setIfInBounds_toArray, List.set_cons_zero, List.set_cons_succ]; refine hK _ _ ?_; clear hK K
          refine seq_store_row rfl rfl rfl ((h5.apart (by omega) _)) (by kernel_rfl) (by rfl) (by simp [Value.oneCell']) (by rfl) (Gap.row _ (by omega) (by omega) _) ?_; intro K hK; simp only [Act.put, List.setIfInBounds_toArray, List.set_cons_zero, List.set_cons_succ]; refine hK _ _ ?_; clear hK K
          refine seq_done ?_
          go_wp2_with fail
          go_meet
          case rel => exact sat_put h4 (hrC_size _) h5 rfl r3 hO h1 h2 HE.out ho hg0 hgX
      case rest =>
        clear h1 h2 h4 h5 r1 hN HE cbr ho hul hb hbl
        have G2 := G.br (a := u) h8 hu1
        generalize brM S N X u = N2 at *
        generalize brH S N X u = X2 at *
        clear G hNl
        have hA := hcut
        clear hcut
        by_cases hodd : k % 2 = 1
        · have d3 : ((k : Int) % 2 == 1) = true := by simp; omega
          obtain ⟨A1, cc1, B1, dd1, h4, h5, r1, hN, h1, h2, hEE, ho⟩ := hA
          have HE := Lib.hid hEE
          clear hEE
          have cev := C.evict A1 X2 cc1 i y _ G2.st.r i1 y1 r1 (hTE _ HE.out)
          unfold EvT at cev
          go_wp2_with (refine wpList_load_blk (by rfl) 29 _ rfl rfl h4 Tryz.underlying29 rfl (by kernel_rfl) ?_)
          refine cev.mono ?_
          rintro r5 w5 ⟨A3, cc3, rfl, r3, hE⟩
          have hA3 : SAt S N2 (evH X2 i y) A c h B M d g4 g5 w (w5.setRow g4 (hrC ⟨A3, cc3, evH X2 i y⟩)) := sat_putH (h4.ext hE) (hrC_size _) (h5.ext hE) r3 (hN.ext hE) (h1.ext hE) (h2.ext hE) (HE.out.trans hE) ho hg0 hgX
          have G3 := G2.ev i y
          have h4k := h4.ext hE
          clear h1 h2 h4 h5 r1 r3 hN HE ho G2 cev hE
          generalize evH X2 i y = X3 at *
          go_upto_region 11 with (refine wpList_store_blk rfl 29 _ _ rfl rfl rfl h4k (hr_info _) (by simp [hrC_size]) (hrC_one _) ?_)
          (try simp only [Act.put, List.setIfInBounds_toArray, List.set_cons_zero, List.set_cons_succ])
          clear h4k
          generalize w5.setRow g4 (hrC ⟨A3, cc3, X3⟩) = W5 at *
          obtain ⟨A1, cc1, B1, dd1, h4, h5, r1, hN, h1, h2, hEE, ho⟩ := hA3
          have HE := Lib.hid hEE
          clear hEE
          go_wp2_with (refine wpList_load_blk (by rfl) 29 _ rfl rfl h4 Tryz.underlying29 rfl (by kernel_rfl) ?_)
          refine (C.pick A1 _ cc1 y _ y1).mono ?_
          rintro r6 w6 ⟨rfl, hE⟩
          have hA4 := sat_putH (h4.ext hE) (hrC_size _) (h5.ext hE) (by rw [pi_L _ y]; exact r1.ext hE) (hN.ext hE) (h1.ext hE) (h2.ext hE) (HE.out.trans hE) ho hg0 hgX
          have G4 := G3.pi y1
          have h4k := h4.ext hE
          clear h1 h2 h4 h5 r1 hN HE ho G3 hE
          go_wp2_with (refine wpList_store_blk rfl 29 _ _ rfl rfl rfl h4k (hr_info _) (by simp [hrC_size]) (hrC_one _) ?_)
          clear h4k
          go_roundw
          case rel => exact ⟨k + 1, _, _, by omega, by go_num, G4, hA4⟩
          case measure => simp [intOf]; omega
        · have d3 : ((k : Int) % 2 == 1) = false := by simp; omega
          have hA3 := hA
          have G3 := G2
          clear hA G2
          obtain ⟨A1, cc1, B1, dd1, h4, h5, r1, hN, h1, h2, hEE, ho⟩ := hA3
          have HE := Lib.hid hEE
          clear hEE
          go_wp2_with (refine wpList_load_blk (by rfl) 29 _ rfl rfl h4 Tryz.underlying29 rfl (by kernel_rfl) ?_)
          refine (C.pick A1 _ cc1 y _ y1).mono ?_
          rintro r6 w6 ⟨rfl, hE⟩
          have hA4 := sat_putH (h4.ext hE) (hrC_size _) (h5.ext hE) (by rw [pi_L _ y]; exact r1.ext hE) (hN.ext hE) (h1.ext hE) (h2.ext hE) (HE.out.trans hE) ho hg0 hgX
          have G4 := G3.pi y1
          have h4k := h4.ext hE
          clear h1 h2 h4 h5 r1 hN HE ho G3 hE
          go_wp2_with (refine wpList_store_blk rfl 29 _ _ rfl rfl rfl h4k (hr_info _) (by simp [hrC_size]) (hrC_one _) ?_)
          clear h4k
          go_roundw
          case rel => exact ⟨k + 1, _, _, by omega, by go_num, G4, hA4⟩
          case measure => simp [intOf]; omega
    · obtain rfl : k = L.length := by omega
      have hkz : decide ((L.length : Int) < (L.length : Int)) = false := by simp
      obtain ⟨A1, cc1, B1, dd1, h4, h5, r1, hN, h1, h2, hEE, -⟩ := hA
      have HE := Lib.hid hEE
      have hNl := G.len hRL
      obtain ⟨s, hs, -, cpk⟩ := pick_s (z : Int) (by omega) (by omega)
      have hs1 : 0 < s := by rcases hs with rfl | rfl | rfl | rfl <;> decide
      have BT := both (k := n % 3) (a := a) (s := s) (v := v) fr hRL h8 hag G.sl G.st G.ag (by omega) hs1
      have c1 := fun W r m t => acc16_c A h c S B M d (n % 3) a s v fr hok (by omega) a1 hs v1 W r m (by omega) t
      have c2 := fun W r m t => acc16_c A1 X cc1 S B1 N dd1 (n % 3) a s v G.st.r G.ok (by omega) a1 hs v1 W r m (by omega) t
      unfold AccT at c1 c2
      simp only [show ((n % 3 : Nat) : Int) = (n : Int) % 3 by omega] at c1 c2
      have v2 : (accR S M h (n % 3) a s).v < 18446744073709551616 ∧ (accR S N X (n % 3) a s).v < 18446744073709551616 := ⟨acc_v64 _ _ _ _ _ hs, acc_v64 _ _ _ _ _ hs⟩
      have E1 := Lib.hid BT.f
      have E2 := Lib.hid BT.vl
      have E3 := Lib.hid BT.len
      clear BT hs hs1 hL hk hlt hEE G hNl
      generalize accR S M h (n % 3) a s = R1 at *
      generalize accR S N X (n % 3) a s = R2 at *
      generalize accM S M h (n % 3) a s v = M1 at *
      generalize accM S N X (n % 3) a s v = M2 at *
      generalize accH S M h (n % 3) a s = H1 at *
      generalize accH S N X (n % 3) a s = H2 at *
      go_wp2_with fail
      refine (cpk _).mono ?_
      rintro r5 w' ⟨rfl, hE⟩
      (try replace hb := hb.ext hE); (try replace hm := hm.ext hE); (try replace h1 := h1.ext hE); (try replace h2 := h2.ext hE); (try replace h4 := h4.ext hE); (try replace h5 := h5.ext hE); (try replace h8 := h8.ext hE); (try replace k1 := k1.ext hE); (try replace k2 := k2.ext hE); (try replace k3 := k3.ext hE); (try replace k4 := k4.ext hE); (try replace k5 := k5.ext hE); (try replace k6 := k6.ext hE); (try replace hN := hN.ext hE); (try replace hO := hO.ext hE); (try replace HE := Lib.hid (HE.out.trans hE)); (try replace r0 := r0.ext hE); (try replace r1 := r1.ext hE); (try replace r2 := r2.ext hE); (try replace r3 := r3.ext hE); (try replace r4 := r4.ext hE); (try replace r5 := r5.ext hE); (try replace r6 := r6.ext hE)
      clear hE cpk
      go_wp2_with ((first | (refine wpList_load_blk (by rfl) 29 _ rfl rfl h1 Tryz.underlying29 rfl (by kernel_rfl) ?_) | (refine wpList_load_blk (by rfl) 32 _ rfl rfl h2 Tryz.underlying32 rfl (by kernel_rfl) ?_))); refine (c1 _ (hrow _ HE.out) (hMm _ HE.out) (hTE _ HE.out)).mono ?_; rintro e w' ⟨A6, B6, cc6, dd6, rfl, -, -, hE⟩; (try replace hb := hb.ext hE); (try replace hm := hm.ext hE); (try replace h1 := h1.ext hE); (try replace h2 := h2.ext hE); (try replace h4 := h4.ext hE); (try replace h5 := h5.ext hE); (try replace h8 := h8.ext hE); (try replace k1 := k1.ext hE); (try replace k2 := k2.ext hE); (try replace k3 := k3.ext hE); (try replace k4 := k4.ext hE); (try replace k5 := k5.ext hE); (try replace k6 := k6.ext hE); (try replace hN := hN.ext hE); (try replace hO := hO.ext hE); (try replace HE := Lib.hid (HE.out.trans hE)); (try replace r0 := r0.ext hE); (try replace r1 := r1.ext hE); (try replace r2 := r2.ext hE); (try replace r3 := r3.ext hE); (try replace r4 := r4.ext hE); (try replace r5 := r5.ext hE); (try replace r6 := r6.ext hE); clear hE
      clear c1
      obtain ⟨zz1, zz2, zz3, hE, k1, k2, k3⟩ := nh3 w' (hrC ⟨A6, cc6, H1⟩) #[.int .u64 (S : Int), .slice B6 M1.length dd6] (rsC R1); (try replace hb := hb.ext hE); (try replace hm := hm.ext hE); (try replace h1 := h1.ext hE); (try replace h2 := h2.ext hE); (try replace h4 := h4.ext hE); (try replace h5 := h5.ext hE); (try replace h8 := h8.ext hE); (try replace k1 := k1.ext hE); (try replace k2 := k2.ext hE); (try replace k3 := k3.ext hE); (try replace k4 := k4.ext hE); (try replace k5 := k5.ext hE); (try replace k6 := k6.ext hE); (try replace hN := hN.ext hE); (try replace hO := hO.ext hE); (try replace HE := Lib.hid (HE.out.trans hE)); (try replace r0 := r0.ext hE); (try replace r1 := r1.ext hE); (try replace r2 := r2.ext hE); (try replace r3 := r3.ext hE); (try replace r4 := r4.ext hE); (try replace r5 := r5.ext hE); (try replace r6 := r6.ext hE); clear hE
      go_wp2_with (first | (first | (refine wpList_store_blk rfl 29 _ _ rfl rfl rfl zz1 (hr_info _) (by simp [hrC_size]) (hrC_one _) ?_) | (refine wpList_store_blk rfl 32 _ _ rfl rfl rfl zz2 (by kernel_rfl) (by rfl) (by simp [Value.oneCell']) ?_) | ((refine wpList_store_blk rfl 56 _ _ rfl rfl rfl zz3 (rs_info _) (by simp [rsC_size]) (rsC_one _) ?_); clear zz1 zz2 zz3; generalize (((((w'.alloc (.cells #[.slice none 0 0, .int .u64 0, .int .u64 0, .int .u64 0, .int .i64 0, .bool false, .bool false, .int .i64 0] 29)).alloc (.cells #[.int .u64 0, .slice none 0 0] 32)).alloc (.cells #[.int .u64 0, .bool false, .int .i64 0, .int .u64 0] 56)).setRow w'.heap.size (hrC ⟨A6, cc6, H1⟩)).setRow (w'.heap.size + 1) #[.int .u64 (S : Int), .slice B6 M1.length dd6]).setRow (w'.heap.size + 1 + 1) (rsC R1) = X at *)) | (refine wpList_load_blk (by rfl) 29 _ rfl rfl h4 Tryz.underlying29 rfl (by kernel_rfl) ?_) | (refine wpList_load_blk (by rfl) 32 _ rfl rfl h5 Tryz.underlying32 rfl (by kernel_rfl) ?_))
      generalize w'.heap.size = g6 at *
      refine (c2 _ r1 hN (hTE _ HE.out)).mono ?_
      rintro r5 w' ⟨A7, B7, cc7, dd7, rfl, -, -, hE⟩
      (try replace hb := hb.ext hE); (try replace hm := hm.ext hE); (try replace h1 := h1.ext hE); (try replace h2 := h2.ext hE); (try replace h4 := h4.ext hE); (try replace h5 := h5.ext hE); (try replace h8 := h8.ext hE); (try replace k1 := k1.ext hE); (try replace k2 := k2.ext hE); (try replace k3 := k3.ext hE); (try replace k4 := k4.ext hE); (try replace k5 := k5.ext hE); (try replace k6 := k6.ext hE); (try replace hN := hN.ext hE); (try replace hO := hO.ext hE); (try replace HE := Lib.hid (HE.out.trans hE)); (try replace r0 := r0.ext hE); (try replace r1 := r1.ext hE); (try replace r2 := r2.ext hE); (try replace r3 := r3.ext hE); (try replace r4 := r4.ext hE); (try replace r5 := r5.ext hE); (try replace r6 := r6.ext hE)
      clear hE c2 h4 h5 r1 hN k1
      obtain ⟨zz1, zz2, zz3, hE, k4, k5, k6⟩ := nh3 w' (hrC ⟨A7, cc7, H2⟩) #[.int .u64 (S : Int), .slice B7 M2.length dd7] (rsC R2); (try replace hb := hb.ext hE); (try replace hm := hm.ext hE); (try replace h1 := h1.ext hE); (try replace h2 := h2.ext hE); (try replace h4 := h4.ext hE); (try replace h5 := h5.ext hE); (try replace h8 := h8.ext hE); (try replace k1 := k1.ext hE); (try replace k2 := k2.ext hE); (try replace k3 := k3.ext hE); (try replace k4 := k4.ext hE); (try replace k5 := k5.ext hE); (try replace k6 := k6.ext hE); (try replace hN := hN.ext hE); (try replace hO := hO.ext hE); (try replace HE := Lib.hid (HE.out.trans hE)); (try replace r0 := r0.ext hE); (try replace r1 := r1.ext hE); (try replace r2 := r2.ext hE); (try replace r3 := r3.ext hE); (try replace r4 := r4.ext hE); (try replace r5 := r5.ext hE); (try replace r6 := r6.ext hE); clear hE
      go_upto_region 15 with (first | (refine wpList_store_blk rfl 29 _ _ rfl rfl rfl zz1 (hr_info _) (by simp [hrC_size]) (hrC_one _) ?_) | (refine wpList_store_blk rfl 32 _ _ rfl rfl rfl zz2 (by kernel_rfl) (by rfl) (by simp [Value.oneCell']) ?_) | ((refine wpList_store_blk rfl 56 _ _ rfl rfl rfl zz3 (rs_info _) (by simp [rsC_size]) (rsC_one _) ?_); clear zz1 zz2 zz3; generalize (((((w'.alloc (.cells #[.slice none 0 0, .int .u64 0, .int .u64 0, .int .u64 0, .int .i64 0, .bool false, .bool false, .int .i64 0] 29)).alloc (.cells #[.int .u64 0, .slice none 0 0] 32)).alloc (.cells #[.int .u64 0, .bool false, .int .i64 0, .int .u64 0] 56)).setRow w'.heap.size (hrC ⟨A7, cc7, H2⟩)).setRow (w'.heap.size + 1) #[.int .u64 (S : Int), .slice B7 M2.length dd7]).setRow (w'.heap.size + 1 + 1) (rsC R2) = X at *))
      (try simp only [Act.put, List.setIfInBounds_toArray, List.set_cons_zero, List.set_cons_succ])
      generalize w'.heap.size = g7 at *
      have x1 := h1.hr.s
      have x7 := k2.cell 1
      have x5 := k5.cell 1
      simp only [List.getElem?_toArray, List.getElem?_cons_succ, List.getElem?_cons_zero] at x7 x5
      have y8 := k3.rs_v
      have y6 := k6.rs_v
      have d5 : ((M1.length : Int) == (M2.length : Int)) = true := by rw [E3.out]; simp
      have e1 : ∀ w, (binOp .eql 54 (.agg (ftC R1.f)) (.agg (ftC R2.f))).run Tryz.prog w = .ok (.bool true) w := fun w => by rw [E1.out]; exact run_b (eql_ft w _ _) (dec_same _)
      have hr0 := hr
      clear hr hm hu hT hrow hmm hMm hTE hF h20 d2 hRL h8 hg0 hgX hkz d0 hag E3 hC hS hok i1 y1 caw fr frt fsm
      cases A with
      | none =>
        have hL0 : h.L.length = 0 := by rw [(hr0.2.1 rfl).1]; rfl
        have he : ∀ w, (binOp .neq 22 (.slice none h.L.length c) (.slice none 0 0)).run Tryz.prog w = .ok (.bool false) w := fun _ => rfl
        have hl0 : ((h.L.length : Int) == 0) = true := by rw [hL0]; rfl
        clear hr0 hL0 e1 E1 E2 d5 x7 x5 y8 y6
        go_wp2
        go_ret
        exact ⟨rfl, HE.out⟩
      | some q =>
        have he : ∀ w, (binOp .neq 22 (.slice (some q) h.L.length c) (.slice none 0 0)).run Tryz.prog w = .ok (.bool true) w := fun _ => rfl
        clear hr0
        by_cases hv : R2.v = R1.v
        · have hR : R1 = R2 := by
            have h1 := E1.out
            obtain ⟨v1, f1⟩ := R1
            obtain ⟨v2, f2⟩ := R2
            simp only at hv h1
            rw [hv, h1]
          have q1 : ∀ w, (binOp .eql 56 (.agg (rsC R1)) (.agg (rsC R2))).run Tryz.prog w = .ok (.bool true) w := fun w => by rw [hR]; exact run_b (eql_rs w _ _) (dec_same _)
          clear hv hR E1 E2 y8 y6 v2
          go_wp2_with (first | (refine wpList_load_part (by rfl) 54 _ rfl rfl k3 (rsC_f R1) Tryz.underlying54 rfl (ft_info _) ?_) | (refine wpList_load_part (by rfl) 54 _ rfl rfl k6 (rsC_f R2) Tryz.underlying54 rfl (ft_info _) ?_) | (refine wpList_cmp (op := .eql) (by rfl) 54 rfl rfl rfl (ft_guard) (e1) ?_) | (refine wpList_load_blk (by rfl) 56 _ rfl rfl k3 Tryz.underlying56 rfl (by kernel_rfl) ?_) | (refine wpList_load_blk (by rfl) 56 _ rfl rfl k6 Tryz.underlying56 rfl (by kernel_rfl) ?_) | (refine wpList_cmp (op := .eql) (by rfl) 56 rfl rfl rfl (rs_guard) (q1) ?_; clear e1 q1 k3 k6 k4 k5 k2 h2; simp only [Act.put, List.setIfInBounds_toArray, List.set_cons_zero, List.set_cons_succ]; go_wp2))
          go_ret
          exact ⟨rfl, HE.out⟩
        · obtain ⟨hp, hbits⟩ := E2.out.resolve_left hv
          have ctb := fun W => tables17_c S B M.length d R1.v R2.v v2.1 v2.2 hp hbits W
          have q1 : ∀ w, (binOp .eql 56 (.agg (rsC R1)) (.agg (rsC R2))).run Tryz.prog w = .ok (.bool false) w := fun w => run_b (eql_rs w _ _) (decide_eq_false fun hR => hv (by rw [hR]))
          clear hv hp hbits E1 E2 v2
          go_wp2_with (first | (refine wpList_load_part (by rfl) 54 _ rfl rfl k3 (rsC_f R1) Tryz.underlying54 rfl (ft_info _) ?_) | (refine wpList_load_part (by rfl) 54 _ rfl rfl k6 (rsC_f R2) Tryz.underlying54 rfl (ft_info _) ?_) | (refine wpList_cmp (op := .eql) (by rfl) 54 rfl rfl rfl (ft_guard) (e1) ?_) | (refine wpList_load_blk (by rfl) 56 _ rfl rfl k3 Tryz.underlying56 rfl (by kernel_rfl) ?_) | (refine wpList_load_blk (by rfl) 56 _ rfl rfl k6 Tryz.underlying56 rfl (by kernel_rfl) ?_) | (refine wpList_cmp (op := .eql) (by rfl) 56 rfl rfl rfl (rs_guard) (q1) ?_; clear e1 q1 k3 k6 k4 k5 k2; simp only [Act.put, List.setIfInBounds_toArray, List.set_cons_zero, List.set_cons_succ]; go_wp2_with (refine wpList_load_blk (by rfl) 32 _ rfl rfl h2 Tryz.underlying32 rfl (by kernel_rfl) ?_)))
          refine (ctb _).mono ?_
          rintro r9 w9 ⟨rfl, hE⟩
          replace x7 := ext_cell hE x7
          replace x5 := ext_cell hE x5
          replace x1 := ext_cell hE x1
          replace HE := Lib.hid (HE.out.trans hE)
          clear hE ctb y8 y6 h2
          go_wp2
          go_ret
          exact ⟨rfl, HE.out⟩
end Go.Proofs.YtlhoedpencmikaaGreatDoor
