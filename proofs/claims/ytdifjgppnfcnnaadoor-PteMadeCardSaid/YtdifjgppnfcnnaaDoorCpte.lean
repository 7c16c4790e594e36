/- Package pte: Get, set, Put, Bad. -/
import Derived.Test.YtdifjgppnfcnnaaDoorCsix
namespace Go.Proofs.YtdifjgppnfcnnaaDoor
open Go.ChangeShapes Go.WideShapes Go.ChangeAt Go.RowKit
set_option linter.unusedVariables false
set_option linter.unusedSimpArgs false

theorem tb_bit (x : Nat) {i : Nat} (h : i < 64) : bitB (x : Int) (i : Int) = x.testBit i := by rw [bitB_in (by omega) (by omega)]; rfl
theorem getI_nat (x lo n : Nat) : getI (x : Int) (lo : Int) (n : Int) = ((getN x lo n : Nat) : Int) := by unfold getI; rfl
theorem getP_eq {x : Nat} (hx : x < 18446744073709551616) : ptC (getP x) = #[.bool (bitB x 0), .bool (bitB x 1), .bool (bitB x 2), .bool (bitB x 3), .bool (bitB x 4), .bool (bitB x 5), .bool (bitB x 6), .bool (bitB x 7), .int .u64 (getI x 8 2), .int .u64 (getI x 10 44), .int .u64 (getI x 54 10)] := by
  have e0 : bitB (x : Int) 0 = x.testBit 0 := tb_bit x (i := 0) (by decide)
  have e1 : bitB (x : Int) 1 = x.testBit 1 := tb_bit x (i := 1) (by decide)
  have e2 : bitB (x : Int) 2 = x.testBit 2 := tb_bit x (i := 2) (by decide)
  have e3 : bitB (x : Int) 3 = x.testBit 3 := tb_bit x (i := 3) (by decide)
  have e4 : bitB (x : Int) 4 = x.testBit 4 := tb_bit x (i := 4) (by decide)
  have e5 : bitB (x : Int) 5 = x.testBit 5 := tb_bit x (i := 5) (by decide)
  have e6 : bitB (x : Int) 6 = x.testBit 6 := tb_bit x (i := 6) (by decide)
  have e7 : bitB (x : Int) 7 = x.testBit 7 := tb_bit x (i := 7) (by decide)
  have g0 : getI (x : Int) 8 2 = ((x / 256 % 4 : Nat) : Int) := (getI_nat x 8 2).trans (by rw [get8])
  have g1 : getI (x : Int) 10 44 = ((x / 1024 % 17592186044416 : Nat) : Int) := (getI_nat x 10 44).trans (by rw [get10])
  have g2 : getI (x : Int) 54 10 = ((x / 18014398509481984 : Nat) : Int) := (getI_nat x 54 10).trans (by rw [get54 hx])
  rw [e0, e1, e2, e3, e4, e5, e6, e7, g0, g1, g2]
  unfold getP; rw [ptC_def]
theorem get_pte (x : Nat) (hx : x < 18446744073709551616) (w : World) :
    Calls Tryd.prog 12 #[.int .u64 (x : Int)] w fun e w' => e = .returned (.agg (ptC (getP x))) ∧ Ext w w' := by
  rw [getP_eq hx]
  go_enter Tryd.func12, Tryd.ntmps12
  go_wp2_with first | (go_at_call 28; refine (has_c _ _ (by omega) (by omega) (by omega) (by omega) _).mono ?_; rintro e w' ⟨rfl, rfl⟩) | (go_at_call 29; refine (get_c _ _ _ (by first | omega | exact getI_ge _ _ _ | exact setI_ge _ _ _ _ | exact signI_ge _ _) (by first | omega | exact getI_lt _ _ (by first | omega | exact getI_ge _ _ _ | exact setI_ge _ _ _ _ | exact signI_ge _ _) (by omega) | exact setI_lt _ _ _ (by first | omega | exact getI_ge _ _ _ | exact setI_ge _ _ _ _ | exact signI_ge _ _) (by omega) | exact signI_lt (by first | omega | exact getI_ge _ _ _ | exact setI_ge _ _ _ _ | exact signI_ge _ _) (by omega) (by omega) (by omega)) (by omega) (by omega) (by omega) (by omega) _).mono ?_; rintro e w' ⟨rfl, rfl⟩)
  (try simp only [Exit.inBlock, Exit.then]); refine bodyPost_ret (results_cell_row rfl _ _ _ _ _ _ _ rfl ((blk_at (by simp))) Tryd.underlying24 rfl (by kernel_rfl)) rfl ?_
  exact ⟨rfl, (Ext.refl w).alloc _⟩

/-- the row of eight bits, each beside its place -/
def flC (f : Nat → Bool) : Array Value := #[.int .i64 0, .bool (f 0), .int .i64 1, .bool (f 1), .int .i64 2, .bool (f 2), .int .i64 3, .bool (f 3), .int .i64 4, .bool (f 4), .int .i64 5, .bool (f 5), .int .i64 6, .bool (f 6), .int .i64 7, .bool (f 7)]
theorem flC_at (f : Nat → Bool) {k : Nat} (h : k < 8) : (flC f)[k * 2]? = some (.int .i64 (k : Int)) ∧ (flC f)[k * 2 + 1]? = some (.bool (f k)) := by
  match k, h with
  | 0, _ | 1, _ | 2, _ | 3, _ | 4, _ | 5, _ | 6, _ | 7, _ => exact ⟨rfl, rfl⟩
theorem setI_one (f : Nat → Bool) {k : Nat} (h : k < 8) : setI ((bsum f k : Nat) : Int) (k : Int) 1 (if f k then 1 else 0) = ((bsum f (k + 1) : Nat) : Int) := by
  rw [← set_one f (by omega)]
  unfold setI
  rw [Int.toNat_natCast, Int.toNat_natCast]
  cases f k <;> rfl
set_option maxRecDepth 100000 in
set_option maxHeartbeats 1000000 in
theorem set8_c (f : Nat → Bool) (g : Nat) (w : World) (hb : Blk w g 45 (flC f)) :
    Calls Tryd.prog 25 #[.int .u64 0, .slice (some ⟨g, 0, none⟩) 8 8] w fun e w' => e = .returned (.int .u64 ((bsum f 8 : Nat) : Int)) ∧ Ext w w' := by
  go_enter Tryd.func25, Tryd.ntmps25
  go_wp2
  go_loopw [0, 9] (fun a b w' => ∃ k : Nat, k ≤ 8 ∧ b = .int .i64 k ∧ a = .int .u64 ((bsum f k : Nat) : Int) ∧ Ext w w') (fun _ b _ => 8 - (intOf b).toNat)
  case atStart => exact ⟨0, by omega, rfl, by unfold bsum; rfl, Ext.refl w⟩
  case round =>
    obtain ⟨k, hk, rfl, rfl, hE⟩ := hrel
    by_cases hlt : k < 8
    · have hbr := hb.ext hE
      have hc0 := (hbr.cell (k * 2)).trans (flC_at f hlt).1
      have hc1 := (hbr.cell (k * 2 + 1)).trans (flC_at f hlt).2
      have hz := bsum_lt f k
      have hz2 : 2 ^ k ≤ 2 ^ 8 := Nat.pow_le_pow_right (by decide) (by omega)
      have hz3 : ((bsum f k : Nat) : Int) < 18446744073709551616 := by omega
      have hset : ∀ w, Calls Tryd.prog 26 #[.int .u64 ((bsum f k : Nat) : Int), .int .i64 (k : Int), .int .i64 1, .int .u64 (if f k then 1 else 0)] w fun e w' => e = .returned (.int .u64 ((bsum f (k + 1) : Nat) : Int)) ∧ w = w' := fun w => by
        have := set_c ((bsum f k : Nat) : Int) (k : Int) 1 (if f k then 1 else 0) (by omega) (by omega) (by split <;> decide) (by split <;> decide) (by omega) (by omega) (by omega) (by omega) w
        rwa [setI_one f hlt] at this
      obtain ⟨y, hy⟩ : ∃ y, y = bsum f (k + 1) := ⟨_, rfl⟩
      rw [← hy] at hset
      have Hy := Lib.hid hy
      have HE := Lib.hid hE
      have hd : decide ((k : Int) < 8) = true := by simp; omega
      have Hlt := Lib.hid hlt
      clear hz hz2 hz3 hbr hE hb hy
      generalize bsum f k = z at hset ⊢
      generalize f k = b at hset hc1
      go_wp2
      go_quiet (first | (go_at_call 33; exact Calls.quiet_of_same ((bool_c _ _).mono fun _ _ h => ⟨h.1, h.2.symm⟩)) | (go_at_call 26; exact Calls.quiet_of_same ((hset _).mono fun _ _ h => ⟨h.1, h.2.symm⟩)))
      clear hset
      go_wp2
      go_roundw
      case rel => exact ⟨k + 1, by have := Hlt.out; omega, by go_num, by rw [Hy.out], (HE.out.alloc _).drewN _⟩
      case measure => have := Hlt.out; simp [intOf]; omega
    · obtain rfl : k = 8 := by omega
      have HE := Lib.hid hE
      clear hE hb
      go_wp2
      go_ret
      exact ⟨rfl, HE.out⟩
end Go.Proofs.YtdifjgppnfcnnaaDoor
