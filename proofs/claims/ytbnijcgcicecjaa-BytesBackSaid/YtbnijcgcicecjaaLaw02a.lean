/- Layer 2: bytes as strings; awake answers true. -/
import Derived.Test.YtbnijcgcicecjaaRtwo
import Derived.Laws.BytesArg
namespace Go.Proofs.Ytbnijcgcicecjaa
open Go.ChangeShapes Go.WideShapes Go.ChangeAt Go.RowKit
set_option linter.unusedVariables false

/-- those bytes as a string -/
def strN (l : List Nat) : ByteArray := ⟨(l.map UInt8.ofNat).toArray⟩
theorem strN_inj {a b : List Nat} (ha : IsBytes a) (hb : IsBytes b) (h : strN a = strN b) : a = b := by
  have h1 : a.map UInt8.ofNat = b.map UInt8.ofNat := by
    have := congrArg (fun s : ByteArray => s.data.toList) h
    simpa [strN] using this
  have h2 := congrArg (fun l : List UInt8 => l.map UInt8.toNat) h1
  have key : ∀ l : List Nat, IsBytes l → (l.map UInt8.ofNat).map UInt8.toNat = l := by
    intro l hl
    rw [List.map_map]
    conv => rhs; rw [← List.map_id l]
    apply List.map_congr_left
    intro x hx
    have := hl x hx
    simp [UInt8.toNat_ofNat']; omega
  simpa only [key a ha, key b hb] using h2
theorem strN_append (a b : List Nat) : strN (a ++ b) = strN a ++ strN b := by
  unfold strN; rw [ByteArray.mk_append_mk, List.map_append]
theorem strN_size (l : List Nat) : (strN l).size = l.length := by simp [strN, ByteArray.size]

theorem run_str (w : World) (A : Option Addr) (l : List Nat) (c : Nat) (hs : SlB w A l) :
    (convert 23 9 (.slice A l.length c)).run Try.prog w = .ok (.string (strN l)) w := by
  have e1 : strN l = strOfNums (l.map fun (b : Nat) => (b : Int)) := by
    unfold strN strOfNums; congr 2; rw [List.map_map]; apply List.map_congr_left; intro x _; simp
  rcases Nat.eq_zero_or_pos l.length with h0 | hl
  · have : l = [] := List.eq_nil_of_length_eq_zero h0
    subst this
    rw [run_convert_bytes_string w 23 9 5 A _ c Try.underlying23 Try.underlying5 Try.underlying9]
    rcases A with _ | a
    · simp [Conv.bytesToString]; rfl
    · have := run_bytesToString (P := Try.prog) w a 0 c [] (by simp [loadCells, loadCellsFrom])
      rw [List.foldl_nil] at this
      exact this
  · obtain ⟨b, off, rfl, _, hc⟩ := hs hl
    rw [e1]
    exact run_convert_bytes_arg w 23 5 Try.underlying23 Try.underlying5 b off l.length c _ (by simp) (fun i hi => by
      rw [hc i hi]; simp [bAt, hi]) 9 Try.underlying9
attribute [irreducible] strN

theorem puts_c (v s : Nat) (v1 : v < 18446744073709551616) (hs : IsSize s) (w : World) :
    Calls Try.prog 9 #[.int .u64 (v : Int), .int .i64 (s : Int)] w (MadeS (bytesN v s) w) :=
  (put_c v s v1 hs w).mono fun e w' ⟨he, hw⟩ => by
    subst he hw
    refine ⟨some ⟨w.heap.size, 0, none⟩, s, by rw [bytesN_len], fun _ => ⟨w.heap.size, 0, rfl, by simp, fun i hi => ?_⟩, (Below.refl _ _).alloc (Nat.le_refl _) _⟩
    rw [bytesN_len] at hi
    have hb : bAt (bytesN v s) i = byteN v i := by unfold bAt; exact bytesN_at v s i hi
    rw [hb, Nat.zero_add, ← rowA_get (byteN v) hi]
    exact cell_of_row _ _ i _ _ _ (heap_alloc_new w _)

theorem bget_nil (w : World) :
    Calls Try.prog 13 #[.slice none 0 0] w fun e w' => e = .returned (.int .u64 0) ∧ w = w' :=
  bget_c none [] 0 (fun x hx => absurd hx (by simp)) (by simp) w (fun h => absurd h (by simp))

theorem awake2_c (w : World) :
    Calls Try.prog 7 #[] w fun e w' => e = .returned (.bool true) ∧ Below w.heap.size w w' := by
  have s1 : sizeB 4 = true := rfl
  have s2 : sizeB 3 = false := rfl
  have s3 : sizeB 0 = false := rfl
  have e1 : strN (bytesN 4660 2) = { data := #[52, 18] } := by unfold strN; rfl
  have e2 : ((numN ((bytesN 4660 2).take 8) : Nat) : Int) = 4660 := rfl
  have e3 : ((4660 % 256 ^ 1 : Nat) : Int) = 52 := rfl
  go_enter Try.func7, Try.ntmps7
  go_wp2_with first | (go_at_call 9; refine (puts_c 4660 2 (by omega) (.inr (.inl rfl)) _).mono ?_; rintro e w1 ⟨A, c, rfl, hs1, hb1⟩; have g1 := run_str w1 A _ c hs1) | (go_at_call 15; refine (size_c _ _).mono ?_; rintro e w' ⟨rfl, rfl⟩) | (go_at_call 13; (with_reducible refine (bget_nil _).mono ?_); rintro e w' ⟨rfl, rfl⟩) | (go_at_call 13; refine (bget_c _ (bytesN 4660 2) _ (bytesN_is _ _) (by rw [bytesN_len]; omega) _ hs1).mono ?_; rintro e w' ⟨rfl, rfl⟩) | (go_at_call 11; refine (low2_c 4660 1 (by omega) (.inl rfl) _).mono ?_; rintro e w' ⟨rfl, rfl⟩)
  go_ret
  exact ⟨rfl, hb1⟩
end Go.Proofs.Ytbnijcgcicecjaa
