/- Package mem: slices of cells as lists of pairs; the search by a closure. -/
import Derived.Test.YtcodgmahegofjaaCtwo
import Derived.Test.YtcodgmahegofjaaMthree
import Derived.Test.YtcodgmahegofjaaGrow
import Derived.Deep.Draws
namespace Go.Proofs.Ytcodgmahegofjaa
open Go.ChangeShapes Go.WideShapes Go.ChangeAt Go.RowKit
set_option linter.unusedVariables false

/-- the slice value with that address reads as those cells -/
def ClB (w : World) (A : Option Addr) (L : List (Nat × Nat)) : Prop :=
  0 < L.length → ∃ b off, A = some ⟨b, off, none⟩ ∧ b < w.heap.size ∧ ∀ i, i < L.length → w.cell? ⟨b, off + i * 2, none⟩ = some (.int .u64 ((atN L i : Nat) : Int)) ∧ w.cell? ⟨b, off + i * 2 + 1, none⟩ = some (.int .u64 ((vlN L i : Nat) : Int))
theorem ClB.ext {w w' : World} {A : Option Addr} {L : List (Nat × Nat)} (h : ClB w A L) (hb : Ext w w') : ClB w' A L := by
  intro hl
  obtain ⟨b, off, rfl, hlt, hc⟩ := h hl
  exact ⟨b, off, rfl, Nat.lt_of_lt_of_le hlt hb.size, fun i hi => ⟨(hb.cell (p := ⟨b, off + i * 2, none⟩) hlt).trans (hc i hi).1, (hb.cell (p := ⟨b, off + i * 2 + 1, none⟩) hlt).trans (hc i hi).2⟩⟩
/-- a memory, as a value -/
def memV (S : Nat) (A : Option Addr) (L : List (Nat × Nat)) (c : Nat) : Value := .agg #[.int .u64 (S : Int), .slice A L.length c]

theorem few_c (S : Nat) (A : Option Addr) (L : List (Nat × Nat)) (c : Nat) (w : World) :
    Calls Try.prog 10 #[.agg #[.int .u64 (S : Int), .slice A L.length c]] w fun e w' => e = .returned (.bool (decide (L.length ≤ 300))) ∧ Ext w w' := by
  go_enter Try.func10, Try.ntmps10
  go_wp2
  go_ret
  exact ⟨by simp; omega, Below.alloc (Below.refl _ _) (Nat.le_refl _) _⟩

/-- the closure of the search: is the cell number i at the place p or above? -/
theorem find1_c (ba bx b off c : Nat) (L : List (Nat × Nat)) (p i : Nat) (hi : i < L.length) (W : World)
    (ha : W.cell? ⟨ba, 0, none⟩ = some (.slice (some ⟨b, off, none⟩) L.length c)) (hx : W.cell? ⟨bx, 0, none⟩ = some (.int .u64 (p : Int))) (hc : W.cell? ⟨b, off + i * 2, none⟩ = some (.int .u64 ((atN L i : Nat) : Int))) :
    Calls Try.prog 42 #[.int .i64 i, .pointer (some ⟨ba, 0, none⟩), .pointer (some ⟨bx, 0, none⟩)] W fun e w' => e = .returned (.bool (decide (p ≤ atN L i))) ∧ ∃ q, w' = W.drewN q := by
  have hiz : (i : Int) < (L.length : Int) := by omega
  go_enter Try.func42, Try.ntmps42
  go_wp2
  go_quiet (fail)
  go_wp2
  go_ret
  exact ⟨by simp, _, rfl⟩

set_option maxHeartbeats 4000000 in
set_option maxRecDepth 100000 in
/-- sort.Search, over a closure that draws and lays nothing -/
theorem search_c (g : Nat) (cb : Array Value) (n : Nat) (p : Nat → Bool) (w : World) (hsz : n < 4611686018427387904)
    (eg : ∀ args w, (callFunc g args).run Try.prog w = .ok (.enter g args) w)
    (hf : ∀ (m : Nat) (i : Nat), i < n → Calls Try.prog g (#[.int .i64 i] ++ cb) (w.drewN m) fun e w' => e = .returned (.bool (p i)) ∧ ∃ q, w' = (w.drewN m).drewN q)
    (hmono : ∀ a b, a ≤ b → b < n → p a = true → p b = true) :
    Calls Try.prog 41 #[.int .i64 n, .func (.func g) #[] cb] w fun e w' => ∃ k : Nat, e = .returned (.int .i64 k) ∧ k ≤ n ∧ (∀ t, t < k → p t = false) ∧ (∀ t, k ≤ t → t < n → p t = true) ∧ ∃ q, w' = w.drewN q := by
  have HF := Lib.hid hf
  have HM := Lib.hid hmono
  clear hf hmono
  go_enter Try.func41, Try.ntmps41
  go_wp2
  go_loopw [5, 6] (fun lo hi wr => ∃ l h q : Nat, lo = .int .i64 l ∧ hi = .int .i64 h ∧ l ≤ h ∧ h ≤ n ∧ wr = w.drewN q ∧ Hid ((∀ t, t < l → p t = false) ∧ ∀ t, h ≤ t → t < n → p t = true)) (fun lo hi _ => (intOf hi - intOf lo).toNat)
  case atStart => exact ⟨0, n, 0, rfl, rfl, by omega, by omega, rfl, Lib.hid ⟨fun t ht => by omega, fun t h1 h2 => by omega⟩⟩
  case round =>
    obtain ⟨l, h, q, rfl, rfl, hlh, hh, rfl, I⟩ := hrel
    by_cases hlt : l < h
    · have hm : (((l + h) / 2 : Nat) : Int) = ((l : Int) + (h : Int)) / 2 := by omega
      have hcall := HF.out q ((l + h) / 2) (by omega)
      rw [hm] at hcall
      rcases hp : p ((l + h) / 2) with _ | _
      · rw [hp] at hcall
        have low : ∀ t, t < (l + h) / 2 + 1 → p t = false := by
          intro t ht
          rcases hq : p t with _ | _
          · rfl
          · have h1 := HM.out t ((l + h) / 2) (by omega) (by omega) hq
            rw [hp] at h1
            exact absurd h1 (by simp)
        have I2 : Hid ((∀ t, t < (l + h) / 2 + 1 → p t = false) ∧ ∀ t, h ≤ t → t < n → p t = true) := Lib.hid ⟨low, I.out.2⟩
        clear low
        clear hp
        go_wp2_with (refine hcall.mono ?_; rintro e w' ⟨rfl, nq, rfl⟩)
        go_roundw
        case rel => exact ⟨(l + h) / 2 + 1, h, q + nq, by rw [show ((l : Int) + (h : Int)) / 2 + 1 = (((l + h) / 2 + 1 : Nat) : Int) by omega], rfl, by omega, hh, by first | rfl | trivial, I2⟩
        case measure => simp [intOf]; omega
      · rw [hp] at hcall
        have I2 : Hid ((∀ t, t < l → p t = false) ∧ ∀ t, (l + h) / 2 ≤ t → t < n → p t = true) := Lib.hid ⟨I.out.1, fun t ht ht2 => HM.out ((l + h) / 2) t ht ht2 hp⟩
        clear hp
        go_wp2_with (refine hcall.mono ?_; rintro e w' ⟨rfl, nq, rfl⟩)
        go_roundw
        case rel => exact ⟨l, (l + h) / 2, q + nq, rfl, by rw [show ((l : Int) + (h : Int)) / 2 = (((l + h) / 2 : Nat) : Int) by omega], by omega, by omega, by first | rfl | trivial, I2⟩
        case measure => simp [intOf]; omega
    · obtain rfl : h = l := by omega
      go_wp2
      go_ret
      exact ⟨_, rfl, hh, I.out.1, I.out.2, q, rfl⟩

theorem Ext.drewN {a b : World} (h : Ext a b) (q : Nat) : Ext a (b.drewN q) := ⟨h.os, h.tape, h.output, h.size, h.block⟩
theorem Ext.alloc {a b : World} (h : Ext a b) (o : Obj) : Ext a (b.alloc o) := Below.alloc h h.size o

/-- how many cells lie below the place p -/
theorem find_c (A : Option Addr) (L : List (Nat × Nat)) (c p n : Nat) (hL : RL n L) (hsz : L.length < 4611686018427387904) (w : World) (hs : ClB w A L) :
    Calls Try.prog 35 #[.slice A L.length c, .int .u64 (p : Int)] w fun e w' => ∃ k : Nat, e = .returned (.int .i64 k) ∧ IsCut L p k ∧ Ext w w' := by
  obtain ⟨W0, hW0⟩ : ∃ W0, W0 = (w.alloc (.cells #[.slice A L.length c] 23)).alloc (.cells #[.int .u64 (p : Int)] 22) := ⟨_, rfl⟩
  have hE : Ext w W0 := by rw [hW0]; exact ((Ext.refl w).alloc _).alloc _
  have ca : W0.cell? ⟨w.heap.size, 0, none⟩ = some (.slice A L.length c) := by
    rw [hW0]; simp
  have cx : W0.cell? ⟨w.heap.size + 1, 0, none⟩ = some (.int .u64 (p : Int)) := by
    rw [hW0]; simp
  have hs0 := hs.ext hE
  have hS := search_c 42 #[.pointer (some ⟨w.heap.size, 0, none⟩), .pointer (some ⟨w.heap.size + 1, 0, none⟩)] L.length (fun i => decide (p ≤ atN L i)) W0 hsz (fun args w => run_callFunc Try.func42 (by kernel_rfl) (by kernel_rfl) args w)
    (fun m i hi => by
      obtain ⟨b, off, rfl, hb, hc⟩ := hs0 (by omega)
      exact (find1_c w.heap.size (w.heap.size + 1) b off c L p i hi (W0.drewN m) ca cx (hc i hi).1))
    (fun a b hab hb ha => by
      rcases Nat.lt_or_eq_of_le hab with h | rfl
      · have := hL.rise h hb
        simp at ha ⊢; omega
      · exact ha)
  clear ca cx hs0 hs
  have HE := Lib.hid hE
  clear hE
  go_enter Try.func35, Try.ntmps35
  go_wp2_with (go_at_call 41; rw [← hW0]; refine hS.mono ?_; rintro e w' ⟨k, rfl, hk, h1, h2, q, rfl⟩)
  go_ret
  exact ⟨k, rfl, ⟨hk, fun t ht => by have := h1 t ht; simp at this; omega, fun t ht ht2 => by have := h2 t ht ht2; simp at this; omega⟩, by rw [← hW0]; exact HE.out.drewN q⟩
end Go.Proofs.Ytcodgmahegofjaa
