/- All frames of a pool taken, one behind the other, and given back in whatever order. -/
import Derived.Test.YtngioemeplllhaaDoorMfour
namespace Go.Proofs.YtngioemeplllhaaDoor

/-- the bits behind k takes -/
def tkF (F : Nat) : Nat → Nat
  | 0 => F
  | k + 1 => takeF (tkF F k)
/-- the place that is taken then -/
def tkL (F k : Nat) : Nat := lowN' (tkF F k)
theorem tkF_lt {F : Nat} (hF : F < 2 ^ 64) : ∀ k, tkF F k < 2 ^ 64
  | 0 => hF
  | k + 1 => take_lt (tkF_lt hF k)
theorem tkF_pop {F : Nat} (hF : F < 2 ^ 64) : ∀ k, k ≤ popN F 64 → popN (tkF F k) 64 = popN F 64 - k
  | 0, _ => rfl
  | k + 1, h => by
    have ih := tkF_pop hF k (by omega)
    have h0 : tkF F k ≠ 0 := by intro e; rw [e, pop_0] at ih; omega
    have := pop_take h0 (tkF_lt hF k)
    simp only [tkF]; omega
theorem tkF_ne {F k : Nat} (hF : F < 2 ^ 64) (h : k < popN F 64) : tkF F k ≠ 0 := by
  intro e
  have := tkF_pop hF k (by omega)
  rw [e, pop_0] at this; omega
theorem tkF_end {F : Nat} (hF : F < 2 ^ 64) : tkF F (popN F 64) = 0 := (pop_iff (tkF_lt hF _)).1 (by rw [tkF_pop hF _ (Nat.le_refl _)]; omega)
theorem tkF_bit {F : Nat} (hF : F < 2 ^ 64) : ∀ k, k ≤ popN F 64 → ∀ b, (tkF F k).testBit b = true ↔ F.testBit b = true ∧ ∀ j, j < k → tkL F j ≠ b
  | 0, _, b => by simp [tkF]
  | k + 1, h, b => by
    have ih := tkF_bit hF k (by omega) b
    have hl := (low_spec (tkF_ne hF (show k < popN F 64 by omega)) (tkF_lt hF k)).1
    simp only [tkF]
    rw [tb_take (tkF_lt hF k)]
    by_cases e : b = tkL F k
    · rw [if_pos ⟨e, hl⟩]
      constructor
      · intro h; cases h
      · intro h; exact absurd e.symm (h.2 k (by omega))
    · rw [if_neg (fun h => e h.1), ih]
      constructor
      · intro h
        refine ⟨h.1, fun j hj => ?_⟩
        by_cases ej : j = k
        · rw [ej]; exact fun h => e h.symm
        · exact h.2 j (by omega)
      · intro h; exact ⟨h.1, fun j hj => h.2 j (by omega)⟩
theorem tkL_bit {F k : Nat} (hF : F < 2 ^ 64) (h : k < popN F 64) : tkL F k < 64 ∧ (tkF F k).testBit (tkL F k) = true := by
  have := low_spec (tkF_ne hF h) (tkF_lt hF k)
  exact ⟨this.1, this.2.1⟩
theorem tkL_F {F k : Nat} (hF : F < 2 ^ 64) (h : k < popN F 64) : F.testBit (tkL F k) = true := ((tkF_bit hF k (by omega) _).1 (tkL_bit hF h).2).1
theorem tkL_ne {F j k : Nat} (hF : F < 2 ^ 64) (hj : j < k) (h : k < popN F 64) : tkL F j ≠ tkL F k := ((tkF_bit hF k (by omega) _).1 (tkL_bit hF h).2).2 j hj
theorem tkL_inj {F j k : Nat} (hF : F < 2 ^ 64) (hj : j < popN F 64) (hk : k < popN F 64) (h : tkL F j = tkL F k) : j = k := by
  by_cases h1 : j < k
  · exact absurd h (tkL_ne hF h1 hk)
  · by_cases h2 : k < j
    · exact absurd h.symm (tkL_ne hF h2 hj)
    · omega
theorem tkL_rise {F k : Nat} (hF : F < 2 ^ 64) (h : k + 1 < popN F 64) : tkL F k < tkL F (k + 1) := by
  obtain ⟨_, _, hlow⟩ := low_spec (tkF_ne hF (show k < popN F 64 by omega)) (tkF_lt hF k)
  have hb := (tkL_bit hF h).2
  have hne := tkL_ne hF (show k < k + 1 by omega) h
  apply Nat.lt_of_not_le; intro hle
  have hlt : tkL F (k + 1) < tkL F k := by omega
  have h0 := hlow _ hlt
  have h1 := (tkF_bit hF (k + 1) (by omega) _).1 hb
  have h2 := (tkF_bit hF k (by omega) (tkL F (k + 1))).2 ⟨h1.1, fun j hj => h1.2 j (by omega)⟩
  rw [h0] at h2; cases h2
theorem tkL_all {F b : Nat} (hF : F < 2 ^ 64) (h : F.testBit b = true) : ∃ j, j < popN F 64 ∧ tkL F j = b := by
  have h1 := tkF_bit hF (popN F 64) (Nat.le_refl _) b
  rw [tkF_end hF, Nat.zero_testBit] at h1
  apply Classical.byContradiction; intro hn
  have := h1.2 ⟨h, fun j hj e => hn ⟨j, hj, e⟩⟩
  cases this

/-- the bits behind k gifts, from the turn t on -/
def gvF (F N t : Nat) : Nat → Nat
  | 0 => 0
  | k + 1 => bitN (gvF F N t k) (tkL F ((k + t) % N)) true
theorem gvF_lt (F N t : Nat) : ∀ k, gvF F N t k < 2 ^ 64
  | 0 => by simp [gvF]
  | k + 1 => bit_lt (gvF_lt F N t k) _ _
theorem gvF_bit {F N t : Nat} (hF : F < 2 ^ 64) (hN : N = popN F 64) : ∀ k, k ≤ N → ∀ b, (gvF F N t k).testBit b = true ↔ ∃ j, j < k ∧ tkL F ((j + t) % N) = b
  | 0, _, b => by simp [gvF]
  | k + 1, h, b => by
    have ih := gvF_bit (t := t) hF hN k (by omega) b
    have hm : (k + t) % N < popN F 64 := by rw [← hN]; exact Nat.mod_lt _ (by omega)
    have hl := (tkL_bit hF hm).1
    simp only [gvF]
    rw [tb_bitN (gvF_lt F N t k)]
    by_cases e : b = tkL F ((k + t) % N)
    · rw [if_pos ⟨e, hl⟩]
      exact ⟨fun _ => ⟨k, by omega, e.symm⟩, fun _ => rfl⟩
    · rw [if_neg (fun h => e h.1), ih]
      constructor
      · rintro ⟨j, hj, he⟩; exact ⟨j, by omega, he⟩
      · rintro ⟨j, hj, he⟩
        by_cases ej : j = k
        · rw [ej] at he; exact absurd he.symm e
        · exact ⟨j, by omega, he⟩
theorem mod_inj {N t i j : Nat} (hi : i < N) (hj : j < N) (h : (i + t) % N = (j + t) % N) : i = j := by
  have key : ∀ a b : Nat, a < N → b < N → a < b → (a + t) % N = (b + t) % N → False := by
    intro a b ha hb hab h
    have h1 : (b - a) % N = 0 := by
      have : (b + t) - (a + t) = b - a := by omega
      rw [← this]
      exact Nat.sub_mod_eq_zero_of_mod_eq h.symm
    rw [Nat.mod_eq_of_lt (by omega)] at h1
    omega
  by_cases h1 : i < j
  · exact (key i j hi hj h1 h).elim
  · by_cases h2 : j < i
    · exact (key j i hj hi h2 h.symm).elim
    · omega
theorem gvF_new {F N t k : Nat} (hF : F < 2 ^ 64) (hN : N = popN F 64) (hk : k < N) : (gvF F N t k).testBit (tkL F ((k + t) % N)) = false := by
  cases hb : (gvF F N t k).testBit (tkL F ((k + t) % N))
  · rfl
  · obtain ⟨j, hj, e⟩ := (gvF_bit hF hN k (by omega) _).1 hb
    have h1 : (j + t) % N < popN F 64 := by rw [← hN]; exact Nat.mod_lt _ (by omega)
    have h2 : (k + t) % N < popN F 64 := by rw [← hN]; exact Nat.mod_lt _ (by omega)
    have := mod_inj (by omega) hk (tkL_inj hF h1 h2 e)
    omega
theorem gvF_end {F N t : Nat} (hF : F < 2 ^ 64) (hN : N = popN F 64) : gvF F N t N = F := by
  apply Nat.eq_of_testBit_eq; intro b
  rw [Bool.eq_iff_iff, gvF_bit hF hN N (Nat.le_refl _)]
  constructor
  · rintro ⟨j, hj, rfl⟩
    exact tkL_F hF (by rw [← hN]; exact Nat.mod_lt _ (by omega))
  · intro h
    obtain ⟨i, hi, rfl⟩ := tkL_all hF h
    have hN0 : 0 < N := by omega
    refine ⟨(i + (N - t % N)) % N, Nat.mod_lt _ hN0, ?_⟩
    congr 1
    have ht := Nat.mod_lt t hN0
    have e : i + (N - t % N) + t = i + N * (1 + t / N) := by
      have := Nat.div_add_mod t N
      rw [Nat.mul_add, Nat.mul_one]; omega
    rw [Nat.mod_add_mod, e, Nat.add_mul_mod_self_left, Nat.mod_eq_of_lt (by omega)]
end Go.Proofs.YtngioemeplllhaaDoor
