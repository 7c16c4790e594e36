/- The document's answers for layer 3: words, bytes, loads. -/
import Derived.Test.YtcodgmahegofjaaRthr
namespace Go.Proofs.Ytcodgmahegofjaa
open Go.ChangeShapes Go.WideShapes Go.ChangeAt Go.RowKit
set_option linter.unusedVariables false
set_option linter.unusedSimpArgs false

theorem word_found {n : Nat} {L : List (Nat × Nat)} (hL : RL n L) {k p : Nat} (hk : k < L.length) (h : atN L k = p) : wordL L p = vlN L k := by rw [← h]; exact hL.word_at hk
theorem word_lost {L : List (Nat × Nat)} {p k : Nat} (h1 : ∀ t, t < k → t < L.length → atN L t < p) (h2 : ∀ t, k ≤ t → t < L.length → p < atN L t) : wordL L p = 0 := by
  apply wordL_none
  intro c hc
  obtain ⟨i, hi, rfl⟩ := List.mem_iff_getElem.1 hc
  rw [← atN_get hi]
  by_cases h : i < k
  · have := h1 i h hi; omega
  · have := h2 i (by omega) hi; omega

set_option maxRecDepth 100000 in
set_option maxHeartbeats 4000000 in
theorem rword_c (S : Nat) (A : Option Addr) (L : List (Nat × Nat)) (c a : Nat) (a1 : a < 18446744073709551616) (hL : RL (S / 8) L) (hS : S % 8 = 0) (hn : L.length ≤ 1152921504606846976) (w : World) (hs : ClB w A L) :
    Calls Try.prog 20 #[.agg #[.int .u64 (S : Int), .slice A L.length c], .int .u64 (a : Int)] w fun e w' => e = .returned (.int .u64 ((wordL L (a / 8) : Nat) : Int)) ∧ Ext w w' := by
  have hE0 : Hid (Ext w (w.alloc (.cells #[.int .u64 (S : Int), .slice A L.length c] 25))) := Lib.hid ((Ext.refl w).alloc _)
  by_cases h1 : S ≤ a
  · have H := Lib.hid (wordL_out hL (p := a / 8) (by omega))
    go_enter Try.func20, Try.ntmps20
    go_wp2
    go_ret
    exact ⟨by rw [H.out]; rfl, hE0.out⟩
  go_enter Try.func20, Try.ntmps20
  go_wp2
  go_loopw [5, 6] (fun lo hi wr => ∃ l h : Nat, lo = .int .i64 l ∧ hi = .int .i64 h ∧ l ≤ h ∧ h ≤ L.length ∧ wr = w.alloc (.cells #[.int .u64 (S : Int), .slice A L.length c] 25) ∧ Hid ((∀ t, t < l → t < L.length → atN L t < a / 8) ∧ (∀ t, h ≤ t → t < L.length → a / 8 < atN L t))) (fun lo hi _ => (intOf hi - intOf lo).toNat)
  case atStart => exact ⟨0, L.length, rfl, rfl, by omega, by omega, rfl, Lib.hid ⟨fun t ht => by omega, fun t h1 h2 => by omega⟩⟩
  case round =>
    obtain ⟨l, h, rfl, rfl, hlh, hh, rfl, I⟩ := hrel
    by_cases hlt : l < h
    · obtain ⟨b, off, rfl, hb, hc⟩ := (hs.ext hE0.out) (by omega)
      have hmid : (l + h) / 2 < L.length := by omega
      obtain ⟨hc1, hc2⟩ := hc ((l + h) / 2) hmid
      have hm : (((l + h) / 2 : Nat) : Int) = ((l : Int) + (h : Int)) / 2 := by omega
      have hz : ((l : Int) + (h : Int)) / 2 < (L.length : Int) := by omega
      have htn : (((l : Int) + (h : Int)) / 2).toNat = (l + h) / 2 := by omega
      clear hc hs
      rcases Nat.lt_trichotomy (atN L ((l + h) / 2)) (a / 8) with e | e | e
      · have hd1 : (((atN L ((l + h) / 2) : Nat) : Int) == (a : Int) / 8) = false := by simp; omega
        have hd2 : decide (((atN L ((l + h) / 2) : Nat) : Int) < (a : Int) / 8) = true := by simp; omega
        have I2 : Hid ((∀ t, t < (l + h) / 2 + 1 → t < L.length → atN L t < a / 8) ∧ (∀ t, h ≤ t → t < L.length → a / 8 < atN L t)) := Lib.hid ⟨fun t ht ht2 => by
          by_cases e2 : t = (l + h) / 2
          · subst e2; exact e
          · have := hL.rise (show t < (l + h) / 2 by omega) hmid; omega, I.out.2⟩
        have HI := Lib.hid e
        clear e
        go_wp2
        go_roundw
        case rel => exact ⟨(l + h) / 2 + 1, h, by rw [show ((l : Int) + (h : Int)) / 2 + 1 = (((l + h) / 2 + 1 : Nat) : Int) by omega], rfl, by omega, hh, trivial, I2⟩
        case measure => simp [intOf]; omega
      · have H := Lib.hid (word_found hL hmid e)
        have hd1 : (((atN L ((l + h) / 2) : Nat) : Int) == (a : Int) / 8) = true := by simp; omega
        clear e
        go_wp2
        go_ret
        exact ⟨by rw [H.out]; rfl, hE0.out⟩
      · have hd1 : (((atN L ((l + h) / 2) : Nat) : Int) == (a : Int) / 8) = false := by simp; omega
        have hd2 : decide (((atN L ((l + h) / 2) : Nat) : Int) < (a : Int) / 8) = false := by simp; omega
        have I2 : Hid ((∀ t, t < l → t < L.length → atN L t < a / 8) ∧ (∀ t, (l + h) / 2 ≤ t → t < L.length → a / 8 < atN L t)) := Lib.hid ⟨I.out.1, fun t ht ht2 => by
          by_cases e2 : t = (l + h) / 2
          · subst e2; exact e
          · have := hL.rise (show (l + h) / 2 < t by omega) ht2; omega⟩
        clear e
        go_wp2
        go_roundw
        case rel => exact ⟨l, (l + h) / 2, rfl, by rw [show ((l : Int) + (h : Int)) / 2 = (((l + h) / 2 : Nat) : Int) by omega], by omega, by omega, trivial, I2⟩
        case measure => simp [intOf]; omega
    · obtain rfl : h = l := by omega
      have H := Lib.hid (word_lost I.out.1 I.out.2)
      go_wp2
      go_ret
      exact ⟨by rw [H.out]; rfl, hE0.out⟩

theorem bAt_byteL (L : List (Nat × Nat)) (a : Nat) : bAt (bytesN (wordL L (a / 8)) 8) (a % 8) = byteL L a := by
  unfold bAt byteL
  rw [bytesN_at _ _ _ (Nat.mod_lt _ (by decide))]

theorem rput_w (v s n : Nat) (v1 : v < 18446744073709551616) (hs : s ≤ 8) (w : World) :
    Calls Try.prog 33 #[.int .u64 (v : Int), .int .i64 (s : Int)] w fun e w' => ∃ A c, e = .returned (.slice A s c) ∧ SlB w' A (bytesN v s) ∧ Ext w w' :=
  (rputs_c v s v1 hs w).mono fun e w' ⟨A, c, he, h1, h2⟩ => ⟨A, c, by rw [he, bytesN_len], h1, h2⟩

theorem rbyte_c (S : Nat) (A : Option Addr) (L : List (Nat × Nat)) (c a : Nat) (a1 : a < 18446744073709551616) (hL : RL (S / 8) L) (hS : S % 8 = 0) (hn : L.length ≤ 1152921504606846976) (w : World) (hs : ClB w A L) :
    Calls Try.prog 30 #[.agg #[.int .u64 (S : Int), .slice A L.length c], .int .u64 (a : Int)] w fun e w' => e = .returned (.int .u8 ((byteL L a : Nat) : Int)) ∧ Ext w w' := by
  have hE0 := (Ext.refl w).alloc (.cells #[.int .u64 (S : Int), .slice A L.length c] 25)
  have H := Lib.hid (bAt_byteL L a)
  go_enter Try.func30, Try.ntmps30
  go_wp2_with fail
  refine (rword_c S A L c a a1 hL hS hn _ (hs.ext hE0)).mono ?_
  rintro e w1 ⟨rfl, hE1⟩
  go_wp2_with fail
  refine (rput_w (wordL L (a / 8)) 8 0 (wordL_lt hL _) (by omega) _).mono ?_
  rintro e w2 ⟨A2, c2, rfl, hs2, hE2⟩
  have HE := Lib.hid (hE0.trans (hE1.trans hE2))
  obtain ⟨b, off, rfl, hb, hc⟩ := hs2 (by rw [bytesN_len]; omega)
  have hcc := hc (a % 8) (by rw [bytesN_len]; omega)
  have htn : ((a : Int) % 8).toNat = a % 8 := by omega
  clear hc hs2 hE0 hE1 hE2
  go_wp2
  go_ret
  exact ⟨by rw [← H.out]; rfl, HE.out⟩

set_option maxRecDepth 100000 in
theorem rwrong_c (S : Nat) (A : Option Addr) (m c a : Nat) (n : Int) (a1 : a < 18446744073709551616) (w : World) :
    Calls Try.prog 29 #[.agg #[.int .u64 (S : Int), .slice A m c], .int .u64 (a : Int), .int .i64 n] w fun e w' => e = .returned (.int .i64 ((errN n a S : Nat) : Int)) ∧ Ext w w' := by
  have hE : Hid (Ext w (w.alloc (.cells #[.int .u64 (S : Int), .slice A m c] 25))) := Lib.hid ((Ext.refl w).alloc _)
  rcases errN_ways n a S with ⟨h, he⟩ | ⟨s, rfl, hs, hw⟩
  · have H := Lib.hid he
    go_enter Try.func29, Try.ntmps29
    go_wp2_with (go_at_call 39; refine (rsize2_c _ _).mono ?_; rintro e w' ⟨rfl, rfl⟩)
    go_ret
    exact ⟨(congrArg (fun k : Nat => Ending.returned (.int .i64 (k : Int))) H.out).symm, hE.out⟩
  · have hsz : sizeB (s : Int) = true := hs.b
    rcases hs with rfl | rfl | rfl | rfl
    all_goals
      rcases hw with ⟨h2, he⟩ | ⟨h2, h3, he⟩ | ⟨h2, h3, he⟩
      all_goals
        have H := Lib.hid he
        go_enter Try.func29, Try.ntmps29
        go_wp2_with (go_at_call 39; refine (rsize2_c _ _).mono ?_; rintro e w' ⟨rfl, rfl⟩)
        all_goals go_ret
        all_goals exact ⟨(congrArg (fun k : Nat => Ending.returned (.int .i64 (k : Int))) H.out).symm, hE.out⟩
end Go.Proofs.Ytcodgmahegofjaa
