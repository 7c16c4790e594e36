/- Causes as numbers: of nine places the numbers, the sorts, the kinds and the names. No program. -/
import Derived.Test.YtcllbidhjggjiaaDoorProg
import Derived.Lib.Hide
import Derived.Test.YtcllbidhjggjiaaDoorGst
import Derived.Test.YtcllbidhjggjiaaDoorGagg
import Derived.Test.YtcllbidhjggjiaaDoorLaid
namespace Go.Proofs.YtcllbidhjggjiaaDoor
set_option linter.unusedVariables false
set_option linter.unusedSimpArgs false

/-- the cause of a place: three times its sort (from 0), and its kind -/
def cauI (q : Nat) : Int := [0, 4, 6, 1, 5, 7, 12, 13, 15].getD q 0
theorem cau_val : cauI 0 = 0 ∧ cauI 1 = 4 ∧ cauI 2 = 6 ∧ cauI 3 = 1 ∧ cauI 4 = 5 ∧ cauI 5 = 7 ∧ cauI 6 = 12 ∧ cauI 7 = 13 ∧ cauI 8 = 15 := ⟨rfl, rfl, rfl, rfl, rfl, rfl, rfl, rfl, rfl⟩
theorem nine {q : Nat} (h : q < 9) : q = 0 ∨ q = 1 ∨ q = 2 ∨ q = 3 ∨ q = 4 ∨ q = 5 ∨ q = 6 ∨ q = 7 ∨ q = 8 := by omega
theorem cau_inj {q r : Nat} (hq : q < 9) (hr : r < 9) (h : cauI q = cauI r) : q = r := by
  rcases nine hq with rfl | rfl | rfl | rfl | rfl | rfl | rfl | rfl | rfl <;> rcases nine hr with rfl | rfl | rfl | rfl | rfl | rfl | rfl | rfl | rfl <;> first | rfl | exact absurd h (by decide)
theorem cau_lt (q : Nat) : 0 ≤ cauI q ∧ cauI q ≤ 15 := by
  by_cases h : q < 9
  · rcases nine h with rfl | rfl | rfl | rfl | rfl | rfl | rfl | rfl | rfl <;> decide
  · have : cauI q = 0 := by unfold cauI; rw [List.getD_eq_getElem?_getD, List.getElem?_eq_none (by simp; omega)]; rfl
    rw [this]; decide
theorem cau_next {k : Nat} (h : k < 3) : cauI (3 + k) = cauI k + 1 := by
  rcases (by omega : k = 0 ∨ k = 1 ∨ k = 2) with rfl | rfl | rfl <;> rfl
theorem cau_page {k : Nat} (h : k < 3) : 12 ≤ cauI (6 + k) := by
  rcases (by omega : k = 0 ∨ k = 1 ∨ k = 2) with rfl | rfl | rfl <;> decide
/-- the place of a number: 9 of one that is no cause -/
def posN (n : Int) : Nat := if n = 0 then 0 else if n = 4 then 1 else if n = 6 then 2 else if n = 1 then 3 else if n = 5 then 4 else if n = 7 then 5 else if n = 12 then 6 else if n = 13 then 7 else if n = 15 then 8 else 9
theorem pos_none {n : Int} (h0 : n ≠ 0) (h1 : n ≠ 4) (h2 : n ≠ 6) (h3 : n ≠ 1) (h4 : n ≠ 5) (h5 : n ≠ 7) (h6 : n ≠ 12) (h7 : n ≠ 13) (h8 : n ≠ 15) : posN n = 9 := by
  unfold posN
  rw [if_neg h0, if_neg h1, if_neg h2, if_neg h3, if_neg h4, if_neg h5, if_neg h6, if_neg h7, if_neg h8]
theorem pos_cases (n : Int) : (∃ q, q < 9 ∧ n = cauI q ∧ posN n = q) ∨ (posN n = 9 ∧ ∀ q, q < 9 → n ≠ cauI q) := by
  by_cases h0 : n = 0
  · exact .inl ⟨0, by omega, h0, by rw [h0]; rfl⟩
  by_cases h1 : n = 4
  · exact .inl ⟨1, by omega, h1, by rw [h1]; rfl⟩
  by_cases h2 : n = 6
  · exact .inl ⟨2, by omega, h2, by rw [h2]; rfl⟩
  by_cases h3 : n = 1
  · exact .inl ⟨3, by omega, h3, by rw [h3]; rfl⟩
  by_cases h4 : n = 5
  · exact .inl ⟨4, by omega, h4, by rw [h4]; rfl⟩
  by_cases h5 : n = 7
  · exact .inl ⟨5, by omega, h5, by rw [h5]; rfl⟩
  by_cases h6 : n = 12
  · exact .inl ⟨6, by omega, h6, by rw [h6]; rfl⟩
  by_cases h7 : n = 13
  · exact .inl ⟨7, by omega, h7, by rw [h7]; rfl⟩
  by_cases h8 : n = 15
  · exact .inl ⟨8, by omega, h8, by rw [h8]; rfl⟩
  refine .inr ⟨pos_none h0 h1 h2 h3 h4 h5 h6 h7 h8, fun q hq => ?_⟩
  rcases nine hq with rfl | rfl | rfl | rfl | rfl | rfl | rfl | rfl | rfl
  · exact h0
  · exact h1
  · exact h2
  · exact h3
  · exact h4
  · exact h5
  · exact h6
  · exact h7
  · exact h8
theorem pos_le (n : Int) : posN n ≤ 9 := by
  rcases pos_cases n with ⟨q, h1, _, h2⟩ | ⟨h, _⟩ <;> omega
theorem pos_at {n : Int} {q : Nat} (hq : q < 9) : posN n = q ↔ n = cauI q := by
  rcases pos_cases n with ⟨r, h1, h2, h3⟩ | ⟨h, h2⟩
  · rw [h3]
    constructor
    · intro h; rw [h2, h]
    · intro h; exact cau_inj h1 hq (h2.symm.trans h)
  · constructor
    · intro h3; omega
    · intro h3; exact absurd h3 (h2 q hq)
theorem pos_cau {q : Nat} (hq : q < 9) : posN (cauI q) = q := (pos_at hq).2 rfl
theorem pos_beq (n : Int) {q : Nat} (hq : q < 9) : (n == cauI q) = decide (posN n = q) := by
  rw [Bool.eq_iff_iff, beq_iff_eq, decide_eq_true_iff]; exact (pos_at hq).symm
def srtI (m : Nat) : Int := if m < 9 then (m / 3 + 1 : Nat) else 0
def kndI (m : Nat) : Int := if m < 9 then (m % 3 : Nat) else 0
def namB (m : Nat) : ByteArray := [⟨#[111, 100, 100, 32, 102, 101, 116, 99, 104]⟩, ⟨#[111, 100, 100, 32, 108, 111, 97, 100]⟩, ⟨#[111, 100, 100, 32, 115, 116, 111, 114, 101]⟩,
  ⟨#[97, 99, 99, 101, 115, 115, 32, 102, 101, 116, 99, 104]⟩, ⟨#[97, 99, 99, 101, 115, 115, 32, 108, 111, 97, 100]⟩, ⟨#[97, 99, 99, 101, 115, 115, 32, 115, 116, 111, 114, 101]⟩,
  ⟨#[112, 97, 103, 101, 32, 102, 101, 116, 99, 104]⟩, ⟨#[112, 97, 103, 101, 32, 108, 111, 97, 100]⟩, ⟨#[112, 97, 103, 101, 32, 115, 116, 111, 114, 101]⟩].getD m ⟨#[]⟩
theorem nam_inj {q r : Nat} (hq : q < 9) (hr : r < 9) (h : namB q = namB r) : q = r := by
  rcases nine hq with rfl | rfl | rfl | rfl | rfl | rfl | rfl | rfl | rfl <;> rcases nine hr with rfl | rfl | rfl | rfl | rfl | rfl | rfl | rfl | rfl <;> first | rfl | exact absurd h (by decide)
theorem nam_some {q : Nat} (hq : q < 9) : namB q ≠ ⟨#[]⟩ := by
  rcases nine hq with rfl | rfl | rfl | rfl | rfl | rfl | rfl | rfl | rfl <;> decide
theorem nam_none : namB 9 = ⟨#[]⟩ := rfl
theorem nam_val : namB 0 = ⟨#[111, 100, 100, 32, 102, 101, 116, 99, 104]⟩ ∧ namB 1 = ⟨#[111, 100, 100, 32, 108, 111, 97, 100]⟩ ∧ namB 2 = ⟨#[111, 100, 100, 32, 115, 116, 111, 114, 101]⟩ ∧
  namB 3 = ⟨#[97, 99, 99, 101, 115, 115, 32, 102, 101, 116, 99, 104]⟩ ∧ namB 4 = ⟨#[97, 99, 99, 101, 115, 115, 32, 108, 111, 97, 100]⟩ ∧ namB 5 = ⟨#[97, 99, 99, 101, 115, 115, 32, 115, 116, 111, 114, 101]⟩ ∧
  namB 6 = ⟨#[112, 97, 103, 101, 32, 102, 101, 116, 99, 104]⟩ ∧ namB 7 = ⟨#[112, 97, 103, 101, 32, 108, 111, 97, 100]⟩ ∧ namB 8 = ⟨#[112, 97, 103, 101, 32, 115, 116, 111, 114, 101]⟩ := ⟨rfl, rfl, rfl, rfl, rfl, rfl, rfl, rfl, rfl⟩
theorem srt_val : srtI 0 = 1 ∧ srtI 1 = 1 ∧ srtI 2 = 1 ∧ srtI 3 = 2 ∧ srtI 4 = 2 ∧ srtI 5 = 2 ∧ srtI 6 = 3 ∧ srtI 7 = 3 ∧ srtI 8 = 3 ∧ srtI 9 = 0 := ⟨rfl, rfl, rfl, rfl, rfl, rfl, rfl, rfl, rfl, rfl⟩
theorem knd_val : kndI 0 = 0 ∧ kndI 1 = 1 ∧ kndI 2 = 2 ∧ kndI 3 = 0 ∧ kndI 4 = 1 ∧ kndI 5 = 2 ∧ kndI 6 = 0 ∧ kndI 7 = 1 ∧ kndI 8 = 2 ∧ kndI 9 = 0 := ⟨rfl, rfl, rfl, rfl, rfl, rfl, rfl, rfl, rfl, rfl⟩
attribute [irreducible] cauI posN srtI kndI namB
end Go.Proofs.YtcllbidhjggjiaaDoor
/- Package cause: what each function answers. The tables lie in the package's variables. -/
namespace Go.Proofs.YtcllbidhjggjiaaDoor
open Go.ChangeShapes Go.WideShapes Go.ChangeAt Go.RowKit
set_option linter.unusedVariables false
set_option linter.unusedSimpArgs false
set_option maxRecDepth 10000

def cauC : Array Value := #[.int .i64 0, .int .i64 4, .int .i64 6, .int .i64 1, .int .i64 5, .int .i64 7, .int .i64 12, .int .i64 13, .int .i64 15]
def sorC : Array Value := #[.string ⟨#[111, 100, 100]⟩, .string ⟨#[97, 99, 99, 101, 115, 115]⟩, .string ⟨#[112, 97, 103, 101]⟩]
def kinC : Array Value := #[.string ⟨#[102, 101, 116, 99, 104]⟩, .string ⟨#[108, 111, 97, 100]⟩, .string ⟨#[115, 116, 111, 114, 101]⟩]
end Go.Proofs.YtcllbidhjggjiaaDoor
/- Package cause: sorts and names. -/
namespace Go.Proofs.YtcllbidhjggjiaaDoor
open Go.ChangeShapes Go.WideShapes Go.ChangeAt Go.RowKit
set_option linter.unusedVariables false
set_option linter.unusedSimpArgs false

theorem pos_test (n : Int) {q : Nat} (hq : q < 9) {c : Int} (hc : cauI q = c) : (c == n) = decide (posN n = q) := by
  rw [← pos_beq n hq, hc, Bool.eq_iff_iff, beq_iff_eq, beq_iff_eq]; exact eq_comm
theorem two_ret {a b c d : Int} (h : a = c) (k : b = d) : Ending.returned (.tuple #[.int .i64 a, .int .i64 b]) = .returned (.tuple #[.int .i64 c, .int .i64 d]) := by rw [h, k]
theorem ten {m : Nat} (h : m ≤ 9) : m = 0 ∨ m = 1 ∨ m = 2 ∨ m = 3 ∨ m = 4 ∨ m = 5 ∨ m = 6 ∨ m = 7 ∨ m = 8 ∨ m = 9 := by omega
theorem str_ret {a b : ByteArray} (h : a = b) : Ending.returned (.string a) = .returned (.string b) := by rw [h]
end Go.Proofs.YtcllbidhjggjiaaDoor
/- The document's answers for causes (atlasref09). -/
namespace Go.Proofs.YtcllbidhjggjiaaDoor
open Go.ChangeShapes Go.WideShapes Go.ChangeAt Go.RowKit
set_option linter.unusedVariables false
set_option linter.unusedSimpArgs false

theorem rnum9_c (s k : Nat) (hs : s < 3) (hk : k < 3) (w : World) :
    Calls Tryd.prog 79 #[.int .i64 ((s + 1 : Nat) : Int), .int .i64 (k : Int)] w fun e w' => e = .returned (.int .i64 (cauI (3 * s + k))) ∧ Ext w w' := by
  obtain ⟨v0, v1, v2, v3, v4, v5, v6, v7, v8⟩ := cau_val
  rcases (by omega : s = 0 ∨ s = 1 ∨ s = 2) with rfl | rfl | rfl <;> rcases (by omega : k = 0 ∨ k = 1 ∨ k = 2) with rfl | rfl | rfl
  all_goals
    simp only [Nat.reduceMul, Nat.reduceAdd]
    simp only [v0, v1, v2, v3, v4, v5, v6, v7, v8]
    clear v0 v1 v2 v3 v4 v5 v6 v7 v8
    go_enter Tryd.func79, Tryd.ntmps79
    go_wp2
    go_ret
    exact ⟨rfl, (Ext.refl w).alloc _⟩
theorem rfault9_c (s k : Nat) (hs : s < 3) (hk : k < 3) (a : Nat) (w : World) :
    Calls Tryd.prog 52 #[.int .i64 ((s + 1 : Nat) : Int), .int .i64 (k : Int), .int .u64 (a : Int)] w fun e w' => e = .returned (.agg (ftC ⟨true, cauI (3 * s + k), a⟩)) ∧ Ext w w' := by
  have hf := rnum9_c s k hs hk
  rw [ftC_def]
  generalize cauI (3 * s + k) = c at hf ⊢
  clear hs hk
  generalize ((s + 1 : Nat) : Int) = s1 at hf ⊢
  go_enter Tryd.func52, Tryd.ntmps52
  go_wp2_with fail
  refine (hf _).mono ?_
  rintro e w1 ⟨rfl, hE⟩
  have hb := blk_one hE
  have HE := Lib.hid (ext_one hE)
  clear hE hf
  go_wp2_with (refine wpList_store_row rfl 57 _ _ rfl _ _ rfl rfl _ _ hb (by kernel_rfl) (by rfl) (by simp [Value.oneCell']) ?_)
  refine bodyPost_ret (results_cell_row rfl _ _ _ _ _ _ _ rfl ((hb.row _)) Tryd.underlying57 rfl (by kernel_rfl)) rfl ?_
  exact ⟨rfl, HE.out.row (Nat.le_refl _) _⟩
end Go.Proofs.YtcllbidhjggjiaaDoor
