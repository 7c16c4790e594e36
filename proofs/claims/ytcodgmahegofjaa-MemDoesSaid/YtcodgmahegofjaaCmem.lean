/- Package mem: Word, wrong, Load. -/
import Derived.Test.YtcodgmahegofjaaCthree
namespace Go.Proofs.Ytcodgmahegofjaa
open Go.ChangeShapes Go.WideShapes Go.ChangeAt Go.RowKit
set_option linter.unusedVariables false

theorem box_mem {w w1 : World} {t : TypeId} {u v : Value} (h : Ext (w.alloc (.cells #[u, v] t)) w1) :
    w1.cell? ⟨w.heap.size, 0, none⟩ = some u ∧ w1.cell? ⟨w.heap.size, 1, none⟩ = some v :=
  ⟨(h.cell (p := ⟨w.heap.size, 0, none⟩) (by simp)).trans (by simp), (h.cell (p := ⟨w.heap.size, 1, none⟩) (by simp)).trans (by simp)⟩

set_option maxRecDepth 100000 in
theorem word_c (S : Nat) (A : Option Addr) (L : List (Nat × Nat)) (c a n : Nat) (a1 : a < 18446744073709551616) (hL : RL n L) (hsz : L.length < 4611686018427387904) (w : World) (hs : ClB w A L) :
    Calls Try.prog 19 #[.agg #[.int .u64 (S : Int), .slice A L.length c], .int .u64 (a : Int)] w fun e w' => e = .returned (.int .u64 ((wordL L (a / 8) : Nat) : Int)) ∧ Ext w w' := by
  go_enter Try.func19, Try.ntmps19
  go_wp2_with fail
  refine (find_c A L c (a / 8) n hL hsz _ (hs.ext ((Ext.refl w).alloc _))).mono ?_
  rintro e w1 ⟨k, rfl, hcut, hE⟩
  obtain ⟨_, hb1⟩ := box_mem hE
  have hE1 : Hid (Ext w w1) := Lib.hid (((Ext.refl w).alloc _).trans hE)
  have hs1 := hs.ext hE1.out
  have hk0 := hcut.1
  by_cases hk : k = L.length
  · have H := Lib.hid (hcut.none hL (.inl hk))
    have hd : decide ((k : Int) = (L.length : Int)) = true := by simp; omega
    go_wp2
    go_ret
    exact ⟨by rw [H.out]; rfl, hE1.out⟩
  · have hlt : k < L.length := by omega
    have hd : decide ((k : Int) = (L.length : Int)) = false := by simp; omega
    obtain ⟨b, off, rfl, hb, hc⟩ := hs1 (by omega)
    obtain ⟨hc1, hc2⟩ := hc k hlt
    have hz : (k : Int) < (L.length : Int) := by omega
    by_cases he : atN L k = a / 8
    · have H := Lib.hid (hcut.word hL hlt he)
      have hd2 : (((atN L k : Nat) : Int) != (a : Int) / 8) = false := by simp; omega
      go_wp2
      go_ret
      exact ⟨by rw [H.out]; rfl, hE1.out⟩
    · have H := Lib.hid (hcut.none hL (.inr he))
      have hd2 : (((atN L k : Nat) : Int) != (a : Int) / 8) = true := by simp; omega
      go_wp2
      go_ret
      exact ⟨by rw [H.out]; rfl, hE1.out⟩

/-- why there are no bytes -/
def errN (n : Int) (a S : Nat) : Nat := if sizeB n = false then 1 else if a % n.toNat ≠ 0 then 2 else if S ≤ a then 3 else 0
theorem errN_1 {n : Int} {a S : Nat} (h : sizeB n = false) : errN n a S = 1 := by unfold errN; rw [if_pos h]
theorem errN_2 {s a S : Nat} (h : IsSize s) (h2 : a % s ≠ 0) : errN s a S = 2 := by unfold errN; rw [if_neg (by simp [h.b]), Int.toNat_natCast, if_pos h2]
theorem errN_3 {s a S : Nat} (h : IsSize s) (h2 : a % s = 0) (h3 : S ≤ a) : errN s a S = 3 := by unfold errN; rw [if_neg (by simp [h.b]), if_neg (by simp; exact h2), if_pos h3]
theorem errN_0 {s a S : Nat} (h : IsSize s) (h2 : a % s = 0) (h3 : a < S) : errN s a S = 0 := by unfold errN; rw [if_neg (by simp [h.b]), if_neg (by simp; exact h2), if_neg (by omega)]
theorem sizeB_int {n : Int} (h : sizeB n = true) : ∃ s : Nat, n = s ∧ IsSize s := by
  simp only [sizeB, Bool.or_eq_true, beq_iff_eq] at h
  rcases h with ((rfl | rfl) | rfl) | rfl
  · exact ⟨1, rfl, .inl rfl⟩
  · exact ⟨2, rfl, .inr (.inl rfl)⟩
  · exact ⟨4, rfl, .inr (.inr (.inl rfl))⟩
  · exact ⟨8, rfl, .inr (.inr (.inr rfl))⟩
/-- the four ways -/
theorem errN_ways (n : Int) (a S : Nat) : (sizeB n = false ∧ errN n a S = 1) ∨ ∃ s : Nat, n = s ∧ IsSize s ∧ ((a % s ≠ 0 ∧ errN n a S = 2) ∨ (a % s = 0 ∧ S ≤ a ∧ errN n a S = 3) ∨ (a % s = 0 ∧ a < S ∧ errN n a S = 0)) := by
  cases h : sizeB n with
  | false => exact .inl ⟨rfl, errN_1 h⟩
  | true =>
    obtain ⟨s, rfl, hs⟩ := sizeB_int h
    refine .inr ⟨s, rfl, hs, ?_⟩
    by_cases h2 : a % s = 0
    · by_cases h3 : S ≤ a
      · exact .inr (.inl ⟨h2, h3, errN_3 hs h2 h3⟩)
      · exact .inr (.inr ⟨h2, by omega, errN_0 hs h2 (by omega)⟩)
    · exact .inl ⟨h2, errN_2 hs h2⟩
attribute [irreducible] errN

set_option maxRecDepth 100000 in
theorem wrong_c (S : Nat) (A : Option Addr) (m c a : Nat) (n : Int) (a1 : a < 18446744073709551616) (w : World) :
    Calls Try.prog 26 #[.agg #[.int .u64 (S : Int), .slice A m c], .int .u64 (a : Int), .int .i64 n] w fun e w' => e = .returned (.int .i64 ((errN n a S : Nat) : Int)) ∧ Ext w w' := by
  have hE : Hid (Ext w (w.alloc (.cells #[.int .u64 (S : Int), .slice A m c] 25))) := Lib.hid ((Ext.refl w).alloc _)
  rcases errN_ways n a S with ⟨h, he⟩ | ⟨s, rfl, hs, hw⟩
  · have H := Lib.hid he
    go_enter Try.func26, Try.ntmps26
    go_wp2_with (go_at_call 36; refine (size_c _ _).mono ?_; rintro e w' ⟨rfl, rfl⟩)
    go_ret
    exact ⟨(congrArg (fun k : Nat => Ending.returned (.int .i64 (k : Int))) H.out).symm, hE.out⟩
  · have hsz : sizeB (s : Int) = true := hs.b
    rcases hs with rfl | rfl | rfl | rfl
    all_goals
      rcases hw with ⟨h2, he⟩ | ⟨h2, h3, he⟩ | ⟨h2, h3, he⟩
      all_goals
        have H := Lib.hid he
        go_enter Try.func26, Try.ntmps26
        go_wp2_with (go_at_call 36; refine (size_c _ _).mono ?_; rintro e w' ⟨rfl, rfl⟩)
        all_goals go_ret
        all_goals exact ⟨(congrArg (fun k : Nat => Ending.returned (.int .i64 (k : Int))) H.out).symm, hE.out⟩

/-- what Load answers -/
def ldN (L : List (Nat × Nat)) (n : Int) (a S : Nat) : Nat := if errN n a S = 0 then loadL L a n.toNat else 0
theorem ldN_no {L : List (Nat × Nat)} {n : Int} {a S : Nat} (h : errN n a S ≠ 0) : ldN L n a S = 0 := by unfold ldN; rw [if_neg h]
theorem ldN_ok {L : List (Nat × Nat)} {s a S : Nat} (h : errN s a S = 0) : ldN L s a S = loadL L a s := by unfold ldN; rw [if_pos h]; rfl
attribute [irreducible] ldN

theorem slb_cut {L : List (Nat × Nat)} {a s : Nat} (hs : Sz s) (ha : a % s = 0) {w w1 : World} {t : TypeId} (h : w1 = w.alloc (.cells (rowA (byteN (wordL L (a / 8))) 8) t)) :
    SlB w1 (some ⟨w.heap.size, a % 8, none⟩) (rowN (fun k => byteL L (a + k)) s) := by
  intro _
  refine ⟨_, _, rfl, by rw [h]; simp, fun i hi => ?_⟩
  rw [rowN_len] at hi
  have key : a % 8 + i < 8 ∧ (a + i) / 8 = a / 8 ∧ (a + i) % 8 = a % 8 + i := by rcases hs with rfl | rfl | rfl | rfl <;> omega
  have e : bAt (rowN (fun k => byteL L (a + k)) s) i = byteN (wordL L (a / 8)) (a % 8 + i) := by
    unfold bAt
    rw [rowN_at _ hi]
    unfold byteL
    rw [key.2.1, key.2.2]
  rw [h, World.cell?_alloc_at _ _ _ _ rfl, rowA_get _ key.1, e]

theorem getrow_c (A : Option Addr) (f : Nat → Nat) (s c : Nat) (hf : ∀ k, f k < 256) (hs : s ≤ 8) (w : World) (h : SlB w A (rowN f s)) :
    Calls Try.prog 28 #[.slice A s c] w fun e w' => e = .returned (.int .u64 ((numN (rowN f s) : Nat) : Int)) ∧ w = w' := by
  have := bget_c A (rowN f s) c (rowN_is hf s) (by rw [rowN_len]; omega) w h
  rwa [List.take_of_length_le (by rw [rowN_len]; exact hs), rowN_len] at this

set_option maxRecDepth 100000 in
theorem load_c (S : Nat) (A : Option Addr) (L : List (Nat × Nat)) (c a m : Nat) (n : Int) (a1 : a < 18446744073709551616) (hL : RL m L) (hsz : L.length < 4611686018427387904) (w : World) (hs : ClB w A L) :
    Calls Try.prog 15 #[.agg #[.int .u64 (S : Int), .slice A L.length c], .int .u64 (a : Int), .int .i64 n] w fun e w' => e = .returned (.tuple #[.int .u64 ((ldN L n a S : Nat) : Int), .int .i64 ((errN n a S : Nat) : Int)]) ∧ Ext w w' := by
  rcases errN_ways n a S with ⟨h, he⟩ | ⟨s, rfl, hz, ⟨h2, he⟩ | ⟨h2, h3, he⟩ | ⟨h2, h3, he⟩⟩
  · go_enter Try.func15, Try.ntmps15
    go_wp2_with (go_at_call 26; refine (wrong_c S A L.length c a n a1 _).mono ?_; rintro e w1 ⟨rfl, hE⟩; rw [he])
    go_ret2
    exact ⟨by rw [he, ldN_no (by omega)]; rfl, ((Ext.refl w).alloc _).trans hE⟩
  · go_enter Try.func15, Try.ntmps15
    go_wp2_with (go_at_call 26; refine (wrong_c S A L.length c a s a1 _).mono ?_; rintro e w1 ⟨rfl, hE⟩; rw [he])
    go_ret2
    exact ⟨by rw [he, ldN_no (by omega)]; rfl, ((Ext.refl w).alloc _).trans hE⟩
  · go_enter Try.func15, Try.ntmps15
    go_wp2_with (go_at_call 26; refine (wrong_c S A L.length c a s a1 _).mono ?_; rintro e w1 ⟨rfl, hE⟩; rw [he])
    go_ret2
    exact ⟨by rw [he, ldN_no (by omega)]; rfl, ((Ext.refl w).alloc _).trans hE⟩
  · go_enter Try.func15, Try.ntmps15
    go_wp2_with fail
    refine (wrong_c S A L.length c a s a1 _).mono ?_
    rintro e w1 ⟨rfl, hE⟩
    rw [he]
    obtain ⟨hb0, hb1⟩ := box_mem hE
    have hE1 := ((Ext.refl w).alloc _).trans hE
    go_wp2_with fail
    refine (word_c S A L c a m a1 hL hsz _ (hs.ext hE1)).mono ?_
    rintro e w2 ⟨rfl, hE2⟩
    have hW := wordL_lt hL (a / 8)
    have hE3 := Lib.hid (hE1.trans hE2)
    go_wp2_with fail
    refine (put_c _ 8 hW (.inr (.inr (.inr rfl))) _).mono ?_
    rintro e w3 ⟨rfl, hw3⟩
    have hsl := slb_cut hz h2 hw3
    have hE4 : Hid (Ext w w3) := Lib.hid (by rw [hw3]; exact hE3.out.alloc _)
    subst hw3
    have h8 : s ≤ 8 - a % 8 := by rcases hz with rfl | rfl | rfl | rfl <;> omega
    go_wp2_with fail
    refine (getrow_c _ _ s _ (fun k => byteL_lt L _) hz.le.2 _ hsl).mono ?_
    rintro e w4 ⟨rfl, rfl⟩
    go_wp2
    go_ret2
    exact ⟨by rw [he, ldN_ok he]; rfl, hE4.out⟩
end Go.Proofs.Ytcodgmahegofjaa
