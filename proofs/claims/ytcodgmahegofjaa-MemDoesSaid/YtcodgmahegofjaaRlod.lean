/- The document's answer for layer 3: Load. -/
import Derived.Test.YtcodgmahegofjaaRwrd
namespace Go.Proofs.Ytcodgmahegofjaa
open Go.ChangeShapes Go.WideShapes Go.ChangeAt Go.RowKit
set_option linter.unusedVariables false
set_option linter.unusedSimpArgs false

theorem byteVs_add (f : Nat → Nat) (k : Nat) : byteVs (rowN f k) ++ [Value.int .u8 ((f k : Nat) : Int)] = byteVs (rowN f (k + 1)) := by
  rw [rowN_snoc]; simp [byteVs]
theorem load_row (L : List (Nat × Nat)) (a : Nat) {s : Nat} (h : s ≤ 8) : numN ((rowN (fun k => byteL L (a + k)) s).take 8) = loadL L a s := by
  rw [List.take_of_length_le (by rw [rowN_len]; exact h)]; rfl

theorem own_slb_n {w : World} {base n : Nat} {v : Value} {l : List Nat} (h : w.ownsRow base 5 1 v n (byteVs l)) (hl : l.length = n) : ∃ A c, v = .slice A n c ∧ SlB w A l := by
  subst hl; exact own_slb h
theorem own_ext {w w' : World} {b : Nat} {e : TypeId} {size n : Nat} {v : Value} {xs : List Value} (h : w.ownsRow b e size v n xs) (hE : Ext w w') : w'.ownsRow b e size v n xs := by
  refine ⟨h.1, ?_⟩
  rcases h.2 with h0 | ⟨g, cap, cur, hv, hbg, hh, h3⟩
  · exact .inl h0
  · exact .inr ⟨g, cap, cur, hv, hbg, (hE.block g (Array.getElem?_eq_some_iff.1 hh).1).trans hh, h3⟩
theorem run_append_byte (w : World) (base : Nat) (v : Value) (n : Nat) (xs : List Value) (hown : w.ownsRow base 5 1 v n xs) (b : Nat)
    (hn : n + 1 ≤ 100000) (hb : base ≤ w.heap.size) (ty : TypeId) :
    ∃ v' w', (Builtin.append_ #[53, 53] ty #[v, .slice (some ⟨w.heap.size, 0, none⟩) 1 1]).run Try.prog (w.alloc (.cells #[.int .u8 (b : Int)] 5)) = .ok v' w' ∧ w'.ownsRow base 5 1 v' (n + 1) (xs ++ [.int .u8 (b : Int)]) ∧ (w.alloc (.cells #[.int .u8 (b : Int)] 5)).grownBy w' v.ownBlock := by
  obtain ⟨i0, hi, hz0, hz1, hz2⟩ := info_parts u8_info
  obtain ⟨v', w', h1, h2, h3, _⟩ := run_append_own_at (P := Try.prog) (w.alloc (.cells #[.int .u8 (b : Int)] 5)) base 53 ty 5 i0 (.int .u8 0) 1 1 Try.underlying53 hi hz0 hz1 hz2 rfl (by decide) v n xs (hown.alloc _) ⟨w.heap.size, 0, none⟩ 1 1 [.int .u8 (b : Int)]
    rfl (cell_one_new _ _ _) (by intro u hu; simp at hu; subst hu; rfl) (by unfold maxLen; omega) (by omega) (by rw [World.size_alloc]; omega)
  exact ⟨v', w', h1, h2, h3⟩

set_option maxRecDepth 100000 in
set_option maxHeartbeats 4000000 in
theorem rload_c (S : Nat) (A : Option Addr) (L : List (Nat × Nat)) (c a : Nat) (n : Int) (a1 : a < 18446744073709551616) (hL : RL (S / 8) L) (hS : S % 8 = 0) (hS2 : S ≤ 1099511627776) (hn : L.length ≤ 1152921504606846976) (w : World) (hs : ClB w A L) :
    Calls Try.prog 16 #[.agg #[.int .u64 (S : Int), .slice A L.length c], .int .u64 (a : Int), .int .i64 n] w fun e w' => e = .returned (.tuple #[.int .u64 ((ldN L n a S : Nat) : Int), .int .i64 ((errN n a S : Nat) : Int)]) ∧ Ext w w' := by
  by_cases he : errN n a S = 0
  case neg =>
    have hd : (((errN n a S : Nat) : Int) != 0) = true := by simp; omega
    have H := Lib.hid (ldN_no (L := L) he)
    clear he
    go_enter Try.func16, Try.ntmps16
    go_wp2_with (go_at_call 29; refine (rwrong_c S A L.length c a n a1 _).mono ?_; rintro e w1 ⟨rfl, hE⟩)
    go_ret2
    exact ⟨by rw [H.out]; rfl, ((Ext.refl w).alloc _).trans hE⟩
  obtain ⟨s, rfl, hz, h2, h3⟩ : ∃ s : Nat, n = s ∧ IsSize s ∧ a % s = 0 ∧ a < S := by
    rcases errN_ways n a S with ⟨_, h⟩ | ⟨s, rfl, hz, ⟨_, h⟩ | ⟨_, _, h⟩ | ⟨h2, h3, h⟩⟩
    · omega
    · omega
    · omega
    · exact ⟨s, rfl, hz, h2, h3⟩
  have H := Lib.hid (ldN_ok (L := L) he)
  have hl8 := hz.le
  obtain ⟨i0, hi, hz0, hz1, hz2⟩ := info_parts u8_info
  go_enter Try.func16, Try.ntmps16
  go_wp2_with fail
  refine (rwrong_c S A L.length c a s a1 _).mono ?_
  rintro e w1 ⟨rfl, hE⟩
  rw [he]
  obtain ⟨hb0, hb1⟩ := box_mem hE
  have hE0 := ((Ext.refl w).alloc _).trans hE
  have hlw : w.heap.size < w1.heap.size := by have h := hE.size; rw [World.size_alloc] at h; omega
  clear hE
  go_wp2
  go_loopw [9, 10] (fun out i wr => ∃ k : Nat, k ≤ s ∧ i = .int .i64 k ∧ wr.ownsRow w1.heap.size 5 1 out k (byteVs (rowN (fun k => byteL L (a + k)) k)) ∧ Ext w1 wr) (fun _ i _ => (s - intOf i).toNat)
  case atStart => exact ⟨0, by omega, rfl, World.ownsRow_nil _ _ _ _, Ext.refl _⟩
  case round =>
    obtain ⟨k, hk, rfl, hown, hE⟩ := hrel
    have hc0 : wr.cell? ⟨w.heap.size, 0, none⟩ = some (.int .u64 (S : Int)) := (hE.cell (p := ⟨w.heap.size, 0, none⟩) hlw).trans hb0
    have hc1 : wr.cell? ⟨w.heap.size, 1, none⟩ = some (.slice A L.length c) := (hE.cell (p := ⟨w.heap.size, 1, none⟩) hlw).trans hb1
    by_cases hlt : k < s
    · go_wp2_with fail
      refine (rbyte_c S A L c (a + k) (by omega) hL hS hn _ (hs.ext (hE0.trans hE))).mono ?_
      rintro e w2 ⟨rfl, hE2⟩
      have hown2 := own_ext hown hE2
      have hb2 : w1.heap.size ≤ w2.heap.size := Nat.le_trans hE.size hE2.size
      go_wp2_with (at_builtin; refine wpList_append_run' _ rfl _ _ _ rfl _ _ rfl rfl _ (run_append_byte w2 w1.heap.size _ _ _ hown2 (byteL L (a + k)) (by omega) hb2 _) ?_; rintro v3 w3 ⟨hown3, hgr⟩)
      have hE3 : Ext w1 w3 := Below.grown (Below.alloc (hE.trans hE2) hb2 _) hgr (by rw [World.size_alloc]; omega) (fun g h => (hown2.lt g h).1)
      rw [byteVs_add (fun k => byteL L (a + k)) k] at hown3
      have Ho := Lib.hid hown3
      clear hown3 hown2 hown hgr
      go_roundw
      case rel => exact ⟨k + 1, by omega, by go_num, Ho.out, hE3⟩
      case measure => simp [intOf]; omega
    · have hk' : k = s := by omega
      subst hk'
      have hl : (rowN (fun k => byteL L (a + k)) k).length = k := rowN_len _ _
      obtain ⟨A2, c2, rfl, hsl⟩ := own_slb_n hown hl
      have HE := Lib.hid (hE0.trans hE)
      have H2 := Lib.hid (load_row L a hl8.2)
      have hg := rget2_c A2 (rowN (fun k => byteL L (a + k)) k) c2 (rowN_is (fun k => byteL_lt L _) k) (by rw [hl]; omega) wr hsl
      rw [hl, H2.out] at hg
      clear hown hsl hE
      go_wp2_with (go_at_call 31; refine hg.mono ?_; rintro e w' ⟨rfl, rfl⟩)
      go_ret2
      exact ⟨by rw [H.out, he]; rfl, HE.out⟩
end Go.Proofs.Ytcodgmahegofjaa
