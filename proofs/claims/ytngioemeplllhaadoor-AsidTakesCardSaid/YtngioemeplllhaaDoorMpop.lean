/- How many bits are set: the sum that math/bits.OnesCount64 reckons, byte by byte, is the number of set bits. -/
import Derived.Test.YtngioemeplllhaaDoorMone
namespace Go.Proofs.YtngioemeplllhaaDoor

/-- how many of the k lowest bits are set -/
def popN (x : Nat) : Nat → Nat
  | 0 => 0
  | k + 1 => popN x k + (x.testBit k).toNat
theorem popN_le (x : Nat) : ∀ k, popN x k ≤ k
  | 0 => Nat.le_refl _
  | k + 1 => by have := popN_le x k; have := Bool.toNat_le (x.testBit k); simp only [popN]; omega
theorem popN_congr {x y : Nat} : ∀ k, (∀ i, i < k → x.testBit i = y.testBit i) → popN x k = popN y k
  | 0, _ => rfl
  | k + 1, h => by simp only [popN]; rw [popN_congr k (fun i hi => h i (by omega)), h k (by omega)]
theorem popN_shift (x n : Nat) : ∀ k, popN x (n + k) = popN x n + popN (x >>> n) k
  | 0 => by simp [popN]
  | k + 1 => by rw [← Nat.add_assoc]; simp only [popN]; rw [popN_shift x n k, Nat.testBit_shiftRight]; omega
theorem popN_zero : ∀ k, popN 0 k = 0
  | 0 => rfl
  | k + 1 => by simp [popN, popN_zero k]

/-- (r + 256 y) & (s + 256 z), byte by byte -/
theorem and_step {r s : Nat} (hr : r < 256) (hs : s < 256) (y z : Nat) : (r + 256 * y) &&& (s + 256 * z) = (r &&& s) + 256 * (y &&& z) := by
  have h1 : ∀ a b, a < 256 → a + 256 * b = 2 ^ 8 * b + a := by intro a b _; omega
  have hrs : r &&& s < 256 := Nat.lt_of_le_of_lt Nat.and_le_left hr
  rw [h1 r y hr, h1 s z hs, h1 _ _ hrs]
  apply Nat.eq_of_testBit_eq; intro i
  rw [Nat.testBit_and, Nat.testBit_two_pow_mul_add _ (by exact hr), Nat.testBit_two_pow_mul_add _ (by exact hs), Nat.testBit_two_pow_mul_add _ (by exact hrs)]
  split <;> rw [Nat.testBit_and]
/-- a number of eight bytes -/
def b8 (a b c d e f g h : Nat) : Nat := a + 256 * (b + 256 * (c + 256 * (d + 256 * (e + 256 * (f + 256 * (g + 256 * h))))))
theorem and_b8 {a b c d e f g h m : Nat} (ha : a < 256) (hb : b < 256) (hc : c < 256) (hd : d < 256) (he : e < 256) (hf : f < 256) (hg : g < 256) (hm : m < 256) :
    b8 a b c d e f g h &&& b8 m m m m m m m m = b8 (a &&& m) (b &&& m) (c &&& m) (d &&& m) (e &&& m) (f &&& m) (g &&& m) (h &&& m) := by
  unfold b8; rw [and_step ha hm, and_step hb hm, and_step hc hm, and_step hd hm, and_step he hm, and_step hf hm, and_step hg hm]
theorem cut_of (x : Nat) : ∃ r y, r < 256 ∧ x = r + 256 * y ∧ y = x / 256 := ⟨x % 256, x / 256, Nat.mod_lt _ (by decide), by omega, rfl⟩
theorem b8_of {x : Nat} (hx : x < 18446744073709551616) : ∃ a b c d e f g h, a < 256 ∧ b < 256 ∧ c < 256 ∧ d < 256 ∧ e < 256 ∧ f < 256 ∧ g < 256 ∧ h < 256 ∧ x = b8 a b c d e f g h := by
  obtain ⟨a, y1, ha, h1, e1⟩ := cut_of x
  obtain ⟨b, y2, hb, h2, e2⟩ := cut_of y1
  obtain ⟨c, y3, hc, h3, e3⟩ := cut_of y2
  obtain ⟨d, y4, hd, h4, e4⟩ := cut_of y3
  obtain ⟨e, y5, he, h5, e5⟩ := cut_of y4
  obtain ⟨f, y6, hf, h6, e6⟩ := cut_of y5
  obtain ⟨g, y7, hg, h7, e7⟩ := cut_of y6
  exact ⟨a, b, c, d, e, f, g, y7, ha, hb, hc, hd, he, hf, hg, by omega, by unfold b8; rw [← h7, ← h6, ← h5, ← h4, ← h3, ← h2, ← h1]⟩
theorem half {r : Nat} (y : Nat) : (r + 256 * y) / 2 = (r / 2 + 128 * (y % 2)) + 256 * (y / 2) := by omega
theorem fourth {r : Nat} (y : Nat) : (r + 256 * y) / 4 = (r / 4 + 64 * (y % 4)) + 256 * (y / 4) := by omega
theorem nibble {r : Nat} (y : Nat) : (r + 256 * y) / 16 = (r / 16 + 16 * (y % 16)) + 256 * (y / 16) := by omega
theorem par {r : Nat} (y : Nat) : (r + 256 * y) % 2 = r % 2 := by omega
theorem par4 {r : Nat} (y : Nat) : (r + 256 * y) % 4 = r % 4 := by omega
theorem par16 {r : Nat} (y : Nat) : (r + 256 * y) % 16 = r % 16 := by omega
theorem add_step (r s y z : Nat) : (r + 256 * y) + (s + 256 * z) = (r + s) + 256 * (y + z) := by omega
/-- the bits of eight bytes are the bits of each -/
theorem pop_step {r : Nat} (hr : r < 256) (y k : Nat) : popN (r + 256 * y) (8 + k) = popN r 8 + popN y k := by
  rw [popN_shift]
  have e : (r + 256 * y) >>> 8 = y := by rw [Nat.shiftRight_eq_div_pow]; omega
  rw [e]
  congr 1
  refine popN_congr 8 fun i hi => ?_
  rw [show r + 256 * y = 2 ^ 8 * y + r by omega, Nat.testBit_two_pow_mul_add _ (by exact hr), if_pos hi]
theorem pop_b8 {a b c d e f g h : Nat} (ha : a < 256) (hb : b < 256) (hc : c < 256) (hd : d < 256) (he : e < 256) (hf : f < 256) (hg : g < 256) :
    popN (b8 a b c d e f g h) 64 = popN a 8 + (popN b 8 + (popN c 8 + (popN d 8 + (popN e 8 + (popN f 8 + (popN g 8 + popN h 8)))))) := by
  unfold b8
  rw [show (64 : Nat) = 8 + (8 + (8 + (8 + (8 + (8 + (8 + 8)))))) from rfl, pop_step ha, pop_step hb, pop_step hc, pop_step hd, pop_step he, pop_step hf, pop_step hg]

/-- a byte, its pairs of bits counted; its fours; it whole -/
def q1 (r : Nat) : Nat := ((r >>> 1) &&& 85) + (r &&& 85)
def q2 (r : Nat) : Nat := ((r >>> 2) &&& 51) + (r &&& 51)
def q3 (r : Nat) : Nat := ((r >>> 4) + r) &&& 15
theorem q1_lt : ∀ r, r < 256 → q1 r < 256 := by decide +kernel
theorem q12_lt : ∀ r, r < 256 → q2 (q1 r) < 256 ∧ q2 (q1 r) % 16 ≤ 4 ∧ q2 (q1 r) / 16 ≤ 4 := by decide +kernel
theorem q123 : ∀ r, r < 256 → q3 (q2 (q1 r)) = popN r 8 := by decide +kernel
theorem s1_byte : ∀ r, r < 256 → ∀ p, p < 2 → (r / 2 + 128 * p) &&& 85 = (r >>> 1) &&& 85 := by decide +kernel
theorem s2_byte : ∀ r, r < 256 → ∀ p, p < 4 → (r / 4 + 64 * p) &&& 51 = (r >>> 2) &&& 51 := by decide +kernel
theorem s1_top : ∀ r, r < 256 → r / 2 &&& 85 = (r >>> 1) &&& 85 := by decide +kernel
theorem s2_top : ∀ r, r < 256 → r / 4 &&& 51 = (r >>> 2) &&& 51 := by decide +kernel
theorem and85 : ∀ r, r < 256 → (r &&& 85) ≤ 85 ∧ ((r >>> 1) &&& 85) ≤ 85 := by decide +kernel
theorem and51 : ∀ r, r < 256 → (r &&& 51) ≤ 51 ∧ ((r >>> 2) &&& 51) ≤ 51 := by decide +kernel

theorem step1 {a b c d e f g h : Nat} (ha : a < 256) (hb : b < 256) (hc : c < 256) (hd : d < 256) (he : e < 256) (hf : f < 256) (hg : g < 256) (hh : h < 256) :
    (b8 a b c d e f g h / 2 &&& 6148914691236517205) + (b8 a b c d e f g h &&& 6148914691236517205) = b8 (q1 a) (q1 b) (q1 c) (q1 d) (q1 e) (q1 f) (q1 g) (q1 h) := by
  have hm : (6148914691236517205 : Nat) = b8 85 85 85 85 85 85 85 85 := by decide
  have hs : b8 a b c d e f g h / 2 = b8 (a / 2 + 128 * (b % 2)) (b / 2 + 128 * (c % 2)) (c / 2 + 128 * (d % 2)) (d / 2 + 128 * (e % 2)) (e / 2 + 128 * (f % 2)) (f / 2 + 128 * (g % 2)) (g / 2 + 128 * (h % 2)) (h / 2) := by
    unfold b8; simp only [half, par]
  rw [hs, hm, and_b8 (by omega) (by omega) (by omega) (by omega) (by omega) (by omega) (by omega) (by decide), and_b8 ha hb hc hd he hf hg (by decide),
    s1_byte a ha _ (by omega), s1_byte b hb _ (by omega), s1_byte c hc _ (by omega), s1_byte d hd _ (by omega), s1_byte e he _ (by omega), s1_byte f hf _ (by omega), s1_byte g hg _ (by omega), s1_top h hh]
  unfold b8 q1; simp only [add_step]
theorem step2 {a b c d e f g h : Nat} (ha : a < 256) (hb : b < 256) (hc : c < 256) (hd : d < 256) (he : e < 256) (hf : f < 256) (hg : g < 256) (hh : h < 256) :
    (b8 a b c d e f g h / 4 &&& 3689348814741910323) + (b8 a b c d e f g h &&& 3689348814741910323) = b8 (q2 a) (q2 b) (q2 c) (q2 d) (q2 e) (q2 f) (q2 g) (q2 h) := by
  have hm : (3689348814741910323 : Nat) = b8 51 51 51 51 51 51 51 51 := by decide
  have hs : b8 a b c d e f g h / 4 = b8 (a / 4 + 64 * (b % 4)) (b / 4 + 64 * (c % 4)) (c / 4 + 64 * (d % 4)) (d / 4 + 64 * (e % 4)) (e / 4 + 64 * (f % 4)) (f / 4 + 64 * (g % 4)) (g / 4 + 64 * (h % 4)) (h / 4) := by
    unfold b8; simp only [fourth, par4]
  rw [hs, hm, and_b8 (by omega) (by omega) (by omega) (by omega) (by omega) (by omega) (by omega) (by decide), and_b8 ha hb hc hd he hf hg (by decide),
    s2_byte a ha _ (by omega), s2_byte b hb _ (by omega), s2_byte c hc _ (by omega), s2_byte d hd _ (by omega), s2_byte e he _ (by omega), s2_byte f hf _ (by omega), s2_byte g hg _ (by omega), s2_top h hh]
  unfold b8 q2; simp only [add_step]
theorem s3_byte : ∀ r, r < 256 → r % 16 ≤ 4 → r / 16 ≤ 4 → ∀ p, p < 5 → r / 16 + 16 * p + r < 256 ∧ (r / 16 + 16 * p + r) &&& 15 = q3 r := by decide +kernel
theorem b8_lt {a b c d e f g h : Nat} (ha : a < 256) (hb : b < 256) (hc : c < 256) (hd : d < 256) (he : e < 256) (hf : f < 256) (hg : g < 256) (hh : h < 256) : b8 a b c d e f g h < 18446744073709551616 := by unfold b8; omega
theorem sum_lt {a b c d e f g h : Nat} (ha : a < 256 ∧ a % 16 ≤ 4 ∧ a / 16 ≤ 4) (hb : b < 256 ∧ b % 16 ≤ 4 ∧ b / 16 ≤ 4) (hc : c < 256 ∧ c % 16 ≤ 4 ∧ c / 16 ≤ 4) (hd : d < 256 ∧ d % 16 ≤ 4 ∧ d / 16 ≤ 4)
    (he : e < 256 ∧ e % 16 ≤ 4 ∧ e / 16 ≤ 4) (hf : f < 256 ∧ f % 16 ≤ 4 ∧ f / 16 ≤ 4) (hg : g < 256 ∧ g % 16 ≤ 4 ∧ g / 16 ≤ 4) (hh : h < 256 ∧ h % 16 ≤ 4 ∧ h / 16 ≤ 4) :
    b8 a b c d e f g h / 16 + b8 a b c d e f g h < 18446744073709551616 := by
  have hs : b8 a b c d e f g h / 16 + b8 a b c d e f g h = b8 (a / 16 + 16 * (b % 16) + a) (b / 16 + 16 * (c % 16) + b) (c / 16 + 16 * (d % 16) + c) (d / 16 + 16 * (e % 16) + d) (e / 16 + 16 * (f % 16) + e) (f / 16 + 16 * (g % 16) + f) (g / 16 + 16 * (h % 16) + g) (h / 16 + h) := by
    unfold b8; simp only [nibble, par16, add_step]
  rw [hs]
  exact b8_lt (s3_byte a ha.1 ha.2.1 ha.2.2 (b % 16) (by omega)).1 (s3_byte b hb.1 hb.2.1 hb.2.2 (c % 16) (by omega)).1 (s3_byte c hc.1 hc.2.1 hc.2.2 (d % 16) (by omega)).1 (s3_byte d hd.1 hd.2.1 hd.2.2 (e % 16) (by omega)).1
    (s3_byte e he.1 he.2.1 he.2.2 (f % 16) (by omega)).1 (s3_byte f hf.1 hf.2.1 hf.2.2 (g % 16) (by omega)).1 (s3_byte g hg.1 hg.2.1 hg.2.2 (h % 16) (by omega)).1 (s3_byte h hh.1 hh.2.1 hh.2.2 0 (by omega)).1
theorem step3 {a b c d e f g h : Nat} (ha : a < 256 ∧ a % 16 ≤ 4 ∧ a / 16 ≤ 4) (hb : b < 256 ∧ b % 16 ≤ 4 ∧ b / 16 ≤ 4) (hc : c < 256 ∧ c % 16 ≤ 4 ∧ c / 16 ≤ 4) (hd : d < 256 ∧ d % 16 ≤ 4 ∧ d / 16 ≤ 4)
    (he : e < 256 ∧ e % 16 ≤ 4 ∧ e / 16 ≤ 4) (hf : f < 256 ∧ f % 16 ≤ 4 ∧ f / 16 ≤ 4) (hg : g < 256 ∧ g % 16 ≤ 4 ∧ g / 16 ≤ 4) (hh : h < 256 ∧ h % 16 ≤ 4 ∧ h / 16 ≤ 4) :
    (b8 a b c d e f g h / 16 + b8 a b c d e f g h &&& 1085102592571150095) = b8 (q3 a) (q3 b) (q3 c) (q3 d) (q3 e) (q3 f) (q3 g) (q3 h) := by
  have hm : (1085102592571150095 : Nat) = b8 15 15 15 15 15 15 15 15 := by decide
  have hs : b8 a b c d e f g h / 16 + b8 a b c d e f g h = b8 (a / 16 + 16 * (b % 16) + a) (b / 16 + 16 * (c % 16) + b) (c / 16 + 16 * (d % 16) + c) (d / 16 + 16 * (e % 16) + d) (e / 16 + 16 * (f % 16) + e) (f / 16 + 16 * (g % 16) + f) (g / 16 + 16 * (h % 16) + g) (h / 16 + h) := by
    unfold b8; simp only [nibble, par16, add_step]
  have ka := s3_byte a ha.1 ha.2.1 ha.2.2 (b % 16) (by omega)
  have kb := s3_byte b hb.1 hb.2.1 hb.2.2 (c % 16) (by omega)
  have kc := s3_byte c hc.1 hc.2.1 hc.2.2 (d % 16) (by omega)
  have kd := s3_byte d hd.1 hd.2.1 hd.2.2 (e % 16) (by omega)
  have ke := s3_byte e he.1 he.2.1 he.2.2 (f % 16) (by omega)
  have kf := s3_byte f hf.1 hf.2.1 hf.2.2 (g % 16) (by omega)
  have kg := s3_byte g hg.1 hg.2.1 hg.2.2 (h % 16) (by omega)
  have kh : h / 16 + h < 256 ∧ (h / 16 + h) &&& 15 = q3 h := s3_byte h hh.1 hh.2.1 hh.2.2 0 (by omega)
  rw [hs, hm, and_b8 ka.1 kb.1 kc.1 kd.1 ke.1 kf.1 kg.1 (by decide), ka.2, kb.2, kc.2, kd.2, ke.2, kf.2, kg.2, kh.2]
theorem down8 {r : Nat} (hr : r < 256) (y : Nat) : (r + 256 * y) / 256 = y := by omega
theorem down16 {r s : Nat} (hr : r < 256) (hs : s < 256) (y : Nat) : (r + 256 * (s + 256 * y)) / 65536 = y := by omega
theorem down32 {r s t u : Nat} (hr : r < 256) (hs : s < 256) (ht : t < 256) (hu : u < 256) (y : Nat) : (r + 256 * (s + 256 * (t + 256 * (u + 256 * y)))) / 4294967296 = y := by omega
theorem add_top (r y z : Nat) : r + 256 * y + z = (r + z) + 256 * y := by omega
theorem sum8 {a : Nat} (h : a < 256) (b c d e f g i : Nat) : b8 a b c d e f g i + b8 a b c d e f g i / 256 = b8 (a + b) (b + c) (c + d) (d + e) (e + f) (f + g) (g + i) i := by
  unfold b8; rw [down8 h]; omega
theorem sum16 {a b : Nat} (h : a < 256) (h2 : b < 256) (c d e f g i : Nat) : b8 a b c d e f g i + b8 a b c d e f g i / 65536 = b8 (a + c) (b + d) (c + e) (d + f) (e + g) (f + i) g i := by
  unfold b8; rw [down16 h h2]; omega
theorem sum32 {a b c d : Nat} (h : a < 256) (h2 : b < 256) (h3 : c < 256) (h4 : d < 256) (e f g i : Nat) : b8 a b c d e f g i + b8 a b c d e f g i / 4294967296 = b8 (a + e) (b + f) (c + g) (d + i) e f g i := by
  unfold b8; rw [down32 h h2 h3 h4]; omega
theorem b8_lt63 {a b c d e f g h : Nat} (ha : a < 256) (hb : b < 256) (hc : c < 256) (hd : d < 256) (he : e < 256) (hf : f < 256) (hg : g < 256) (hh : h < 128) : b8 a b c d e f g h < 9223372036854775808 := by unfold b8; omega
theorem b8_mod (a b c d e f g h : Nat) : b8 a b c d e f g h % 128 = a % 128 := by unfold b8; omega
/-- the sum of eight bytes of at most 8 -/
theorem step4 {a b c d e f g h : Nat} (ha : a ≤ 8) (hb : b ≤ 8) (hc : c ≤ 8) (hd : d ≤ 8) (he : e ≤ 8) (hf : f ≤ 8) (hg : g ≤ 8) (hh : h ≤ 8) {x y z u : Nat} (hx : x = b8 a b c d e f g h) (hy : y = x + x / 256) (hz : z = y + y / 65536) (hu : u = z + z / 4294967296) :
    y < 18446744073709551616 ∧ z < 18446744073709551616 ∧ u < 9223372036854775808 ∧ u % 128 = a + (b + (c + (d + (e + (f + (g + h)))))) := by
  subst hx
  rw [sum8 (by clear hy hz hu; omega)] at hy
  subst hy
  rw [sum16 (by clear hz hu; omega) (by clear hz hu; omega)] at hz
  subst hz
  rw [sum32 (by clear hu; omega) (by clear hu; omega) (by clear hu; omega) (by clear hu; omega)] at hu
  subst hu
  refine ⟨b8_lt (by omega) (by omega) (by omega) (by omega) (by omega) (by omega) (by omega) (by omega), b8_lt (by omega) (by omega) (by omega) (by omega) (by omega) (by omega) (by omega) (by omega), b8_lt63 (by omega) (by omega) (by omega) (by omega) (by omega) (by omega) (by omega) (by omega), ?_⟩
  rw [b8_mod]; omega
/-- **what OnesCount64 reckons** -/
theorem ones_eq {x : Nat} (hx : x < 18446744073709551616) : ∃ x1 x2 x3 x4 x5 x6 : Nat, x1 = (x / 2 &&& 6148914691236517205) + (x &&& 6148914691236517205) ∧ x2 = (x1 / 4 &&& 3689348814741910323) + (x1 &&& 3689348814741910323) ∧
    x3 = (x2 / 16 + x2 &&& 1085102592571150095) ∧ x4 = x3 + x3 / 256 ∧ x5 = x4 + x4 / 65536 ∧ x6 = x5 + x5 / 4294967296 ∧
    x1 < 18446744073709551616 ∧ x2 / 16 + x2 < 18446744073709551616 ∧ x4 < 18446744073709551616 ∧ x5 < 18446744073709551616 ∧ x6 < 9223372036854775808 ∧ x6 % 128 = popN x 64 := by
  obtain ⟨a, b, c, d, e, f, g, h, ha, hb, hc, hd, he, hf, hg, hh, rfl⟩ := b8_of hx
  refine ⟨_, _, _, _, _, _, rfl, rfl, rfl, rfl, rfl, rfl, ?_⟩
  rw [step1 ha hb hc hd he hf hg hh, step2 (q1_lt a ha) (q1_lt b hb) (q1_lt c hc) (q1_lt d hd) (q1_lt e he) (q1_lt f hf) (q1_lt g hg) (q1_lt h hh),
    step3 (q12_lt a ha) (q12_lt b hb) (q12_lt c hc) (q12_lt d hd) (q12_lt e he) (q12_lt f hf) (q12_lt g hg) (q12_lt h hh),
    q123 a ha, q123 b hb, q123 c hc, q123 d hd, q123 e he, q123 f hf, q123 g hg, q123 h hh, pop_b8 ha hb hc hd he hf hg]
  have k := step4 (popN_le a 8) (popN_le b 8) (popN_le c 8) (popN_le d 8) (popN_le e 8) (popN_le f 8) (popN_le g 8) (popN_le h 8) rfl rfl rfl rfl
  have l1 := b8_lt (q1_lt a ha) (q1_lt b hb) (q1_lt c hc) (q1_lt d hd) (q1_lt e he) (q1_lt f hf) (q1_lt g hg) (q1_lt h hh)
  exact ⟨l1, sum_lt (q12_lt a ha) (q12_lt b hb) (q12_lt c hc) (q12_lt d hd) (q12_lt e he) (q12_lt f hf) (q12_lt g hg) (q12_lt h hh), k.1, k.2.1, k.2.2.1, k.2.2.2⟩
theorem pop_succ (x k : Nat) : popN x (k + 1) = popN x k + (x.testBit k).toNat := rfl
theorem pop_nil (x : Nat) : popN x 0 = 0 := rfl
attribute [irreducible] popN
end Go.Proofs.YtngioemeplllhaaDoor
