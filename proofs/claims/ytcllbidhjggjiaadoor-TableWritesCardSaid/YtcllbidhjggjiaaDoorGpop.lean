/- How many bits are set: the sum that math/bits.OnesCount64 reckons, byte by byte, is the number of set bits. -/
import Derived.Test.YtcllbidhjggjiaaDoorGone
import Derived.Lib.TrailingZeros
namespace Go.Proofs.YtcllbidhjggjiaaDoor

/-- how many of the k lowest bits are set -/
def popN (x : Nat) : Nat → Nat
  | 0 => 0
  | k + 1 => popN x k + (x.testBit k).toNat
theorem popN_le (x : Nat) : ∀ k, popN x k ≤ k
  | 0 => Nat.le_refl _
  | k + 1 => by have := popN_le x k; have := Bool.toNat_le (x.testBit k); simp only [popN]; omega
theorem popN_congr {x y : Nat} : ∀ k, (∀ i, i < k → x.testBit i = y.testBit i) → popN x k = popN y k
  | 0, _ => rfl
  | k + 1, h => by simp only [popN]; rw [popN_congr k (fun i hi => h i (by omega)), h k (by omega)]
theorem popN_shift (x n : Nat) : ∀ k, popN x (n + k) = popN x n + popN (x >>> n) k
  | 0 => by simp [popN]
  | k + 1 => by rw [← Nat.add_assoc]; simp only [popN]; rw [popN_shift x n k, Nat.testBit_shiftRight]; omega
theorem popN_zero : ∀ k, popN 0 k = 0
  | 0 => rfl
  | k + 1 => by simp [popN, popN_zero k]

/-- (r + 256 y) & (s + 256 z), byte by byte -/
theorem and_step {r s : Nat} (hr : r < 256) (hs : s < 256) (y z : Nat) : (r + 256 * y) &&& (s + 256 * z) = (r &&& s) + 256 * (y &&& z) := by
  have h1 : ∀ a b, a < 256 → a + 256 * b = 2 ^ 8 * b + a := by intro a b _; omega
  have hrs : r &&& s < 256 := Nat.lt_of_le_of_lt Nat.and_le_left hr
  rw [h1 r y hr, h1 s z hs, h1 _ _ hrs]
  apply Nat.eq_of_testBit_eq; intro i
  rw [Nat.testBit_and, Nat.testBit_two_pow_mul_add _ (by exact hr), Nat.testBit_two_pow_mul_add _ (by exact hs), Nat.testBit_two_pow_mul_add _ (by exact hrs)]
  split <;> rw [Nat.testBit_and]
/-- a number of eight bytes -/
def b8 (a b c d e f g h : Nat) : Nat := a + 256 * (b + 256 * (c + 256 * (d + 256 * (e + 256 * (f + 256 * (g + 256 * h))))))
theorem and_b8 {a b c d e f g h m : Nat} (ha : a < 256) (hb : b < 256) (hc : c < 256) (hd : d < 256) (he : e < 256) (hf : f < 256) (hg : g < 256) (hm : m < 256) :
    b8 a b c d e f g h &&& b8 m m m m m m m m = b8 (a &&& m) (b &&& m) (c &&& m) (d &&& m) (e &&& m) (f &&& m) (g &&& m) (h &&& m) := by
  unfold b8; rw [and_step ha hm, and_step hb hm, and_step hc hm, and_step hd hm, and_step he hm, and_step hf hm, and_step hg hm]
theorem cut_of (x : Nat) : ∃ r y, r < 256 ∧ x = r + 256 * y ∧ y = x / 256 := ⟨x % 256, x / 256, Nat.mod_lt _ (by decide), by omega, rfl⟩
theorem b8_of {x : Nat} (hx : x < 18446744073709551616) : ∃ a b c d e f g h, a < 256 ∧ b < 256 ∧ c < 256 ∧ d < 256 ∧ e < 256 ∧ f < 256 ∧ g < 256 ∧ h < 256 ∧ x = b8 a b c d e f g h := by
  obtain ⟨a, y1, ha, h1, e1⟩ := cut_of x
  obtain ⟨b, y2, hb, h2, e2⟩ := cut_of y1
  obtain ⟨c, y3, hc, h3, e3⟩ := cut_of y2
  obtain ⟨d, y4, hd, h4, e4⟩ := cut_of y3
  obtain ⟨e, y5, he, h5, e5⟩ := cut_of y4
  obtain ⟨f, y6, hf, h6, e6⟩ := cut_of y5
  obtain ⟨g, y7, hg, h7, e7⟩ := cut_of y6
  exact ⟨a, b, c, d, e, f, g, y7, ha, hb, hc, hd, he, hf, hg, by omega, by unfold b8; rw [← h7, ← h6, ← h5, ← h4, ← h3, ← h2, ← h1]⟩
theorem half {r : Nat} (y : Nat) : (r + 256 * y) / 2 = (r / 2 + 128 * (y % 2)) + 256 * (y / 2) := by omega
theorem fourth {r : Nat} (y : Nat) : (r + 256 * y) / 4 = (r / 4 + 64 * (y % 4)) + 256 * (y / 4) := by omega
theorem nibble {r : Nat} (y : Nat) : (r + 256 * y) / 16 = (r / 16 + 16 * (y % 16)) + 256 * (y / 16) := by omega
theorem par {r : Nat} (y : Nat) : (r + 256 * y) % 2 = r % 2 := by omega
theorem par4 {r : Nat} (y : Nat) : (r + 256 * y) % 4 = r % 4 := by omega
theorem par16 {r : Nat} (y : Nat) : (r + 256 * y) % 16 = r % 16 := by omega
theorem add_step (r s y z : Nat) : (r + 256 * y) + (s + 256 * z) = (r + s) + 256 * (y + z) := by omega
/-- the bits of eight bytes are the bits of each -/
theorem pop_step {r : Nat} (hr : r < 256) (y k : Nat) : popN (r + 256 * y) (8 + k) = popN r 8 + popN y k := by
  rw [popN_shift]
  have e : (r + 256 * y) >>> 8 = y := by rw [Nat.shiftRight_eq_div_pow]; omega
  rw [e]
  congr 1
  refine popN_congr 8 fun i hi => ?_
  rw [show r + 256 * y = 2 ^ 8 * y + r by omega, Nat.testBit_two_pow_mul_add _ (by exact hr), if_pos hi]
theorem pop_b8 {a b c d e f g h : Nat} (ha : a < 256) (hb : b < 256) (hc : c < 256) (hd : d < 256) (he : e < 256) (hf : f < 256) (hg : g < 256) :
    popN (b8 a b c d e f g h) 64 = popN a 8 + (popN b 8 + (popN c 8 + (popN d 8 + (popN e 8 + (popN f 8 + (popN g 8 + popN h 8)))))) := by
  unfold b8
  rw [show (64 : Nat) = 8 + (8 + (8 + (8 + (8 + (8 + (8 + 8)))))) from rfl, pop_step ha, pop_step hb, pop_step hc, pop_step hd, pop_step he, pop_step hf, pop_step hg]

/-- a byte, its pairs of bits counted; its fours; it whole -/
def q1 (r : Nat) : Nat := ((r >>> 1) &&& 85) + (r &&& 85)
def q2 (r : Nat) : Nat := ((r >>> 2) &&& 51) + (r &&& 51)
def q3 (r : Nat) : Nat := ((r >>> 4) + r) &&& 15
theorem q1_lt : ∀ r, r < 256 → q1 r < 256 := by decide +kernel
theorem q12_lt : ∀ r, r < 256 → q2 (q1 r) < 256 ∧ q2 (q1 r) % 16 ≤ 4 ∧ q2 (q1 r) / 16 ≤ 4 := by decide +kernel
theorem q123 : ∀ r, r < 256 → q3 (q2 (q1 r)) = popN r 8 := by decide +kernel
theorem s1_byte : ∀ r, r < 256 → ∀ p, p < 2 → (r / 2 + 128 * p) &&& 85 = (r >>> 1) &&& 85 := by decide +kernel
theorem s2_byte : ∀ r, r < 256 → ∀ p, p < 4 → (r / 4 + 64 * p) &&& 51 = (r >>> 2) &&& 51 := by decide +kernel
theorem s1_top : ∀ r, r < 256 → r / 2 &&& 85 = (r >>> 1) &&& 85 := by decide +kernel
theorem s2_top : ∀ r, r < 256 → r / 4 &&& 51 = (r >>> 2) &&& 51 := by decide +kernel
theorem and85 : ∀ r, r < 256 → (r &&& 85) ≤ 85 ∧ ((r >>> 1) &&& 85) ≤ 85 := by decide +kernel
theorem and51 : ∀ r, r < 256 → (r &&& 51) ≤ 51 ∧ ((r >>> 2) &&& 51) ≤ 51 := by decide +kernel

theorem step1 {a b c d e f g h : Nat} (ha : a < 256) (hb : b < 256) (hc : c < 256) (hd : d < 256) (he : e < 256) (hf : f < 256) (hg : g < 256) (hh : h < 256) :
    (b8 a b c d e f g h / 2 &&& 6148914691236517205) + (b8 a b c d e f g h &&& 6148914691236517205) = b8 (q1 a) (q1 b) (q1 c) (q1 d) (q1 e) (q1 f) (q1 g) (q1 h) := by
  have hm : (6148914691236517205 : Nat) = b8 85 85 85 85 85 85 85 85 := by decide
  have hs : b8 a b c d e f g h / 2 = b8 (a / 2 + 128 * (b % 2)) (b / 2 + 128 * (c % 2)) (c / 2 + 128 * (d % 2)) (d / 2 + 128 * (e % 2)) (e / 2 + 128 * (f % 2)) (f / 2 + 128 * (g % 2)) (g / 2 + 128 * (h % 2)) (h / 2) := by
    unfold b8; simp only [half, par]
  rw [hs, hm, and_b8 (by omega) (by omega) (by omega) (by omega) (by omega) (by omega) (by omega) (by decide), and_b8 ha hb hc hd he hf hg (by decide),
    s1_byte a ha _ (by omega), s1_byte b hb _ (by omega), s1_byte c hc _ (by omega), s1_byte d hd _ (by omega), s1_byte e he _ (by omega), s1_byte f hf _ (by omega), s1_byte g hg _ (by omega), s1_top h hh]
  unfold b8 q1; simp only [add_step]
theorem step2 {a b c d e f g h : Nat} (ha : a < 256) (hb : b < 256) (hc : c < 256) (hd : d < 256) (he : e < 256) (hf : f < 256) (hg : g < 256) (hh : h < 256) :
    (b8 a b c d e f g h / 4 &&& 3689348814741910323) + (b8 a b c d e f g h &&& 3689348814741910323) = b8 (q2 a) (q2 b) (q2 c) (q2 d) (q2 e) (q2 f) (q2 g) (q2 h) := by
  have hm : (3689348814741910323 : Nat) = b8 51 51 51 51 51 51 51 51 := by decide
  have hs : b8 a b c d e f g h / 4 = b8 (a / 4 + 64 * (b % 4)) (b / 4 + 64 * (c % 4)) (c / 4 + 64 * (d % 4)) (d / 4 + 64 * (e % 4)) (e / 4 + 64 * (f % 4)) (f / 4 + 64 * (g % 4)) (g / 4 + 64 * (h % 4)) (h / 4) := by
    unfold b8; simp only [fourth, par4]
  rw [hs, hm, and_b8 (by omega) (by omega) (by omega) (by omega) (by omega) (by omega) (by omega) (by decide), and_b8 ha hb hc hd he hf hg (by decide),
    s2_byte a ha _ (by omega), s2_byte b hb _ (by omega), s2_byte c hc _ (by omega), s2_byte d hd _ (by omega), s2_byte e he _ (by omega), s2_byte f hf _ (by omega), s2_byte g hg _ (by omega), s2_top h hh]
  unfold b8 q2; simp only [add_step]
theorem s3_byte : ∀ r, r < 256 → r % 16 ≤ 4 → r / 16 ≤ 4 → ∀ p, p < 5 → r / 16 + 16 * p + r < 256 ∧ (r / 16 + 16 * p + r) &&& 15 = q3 r := by decide +kernel
theorem b8_lt {a b c d e f g h : Nat} (ha : a < 256) (hb : b < 256) (hc : c < 256) (hd : d < 256) (he : e < 256) (hf : f < 256) (hg : g < 256) (hh : h < 256) : b8 a b c d e f g h < 18446744073709551616 := by unfold b8; omega
theorem sum_lt {a b c d e f g h : Nat} (ha : a < 256 ∧ a % 16 ≤ 4 ∧ a / 16 ≤ 4) (hb : b < 256 ∧ b % 16 ≤ 4 ∧ b / 16 ≤ 4) (hc : c < 256 ∧ c % 16 ≤ 4 ∧ c / 16 ≤ 4) (hd : d < 256 ∧ d % 16 ≤ 4 ∧ d / 16 ≤ 4)
    (he : e < 256 ∧ e % 16 ≤ 4 ∧ e / 16 ≤ 4) (hf : f < 256 ∧ f % 16 ≤ 4 ∧ f / 16 ≤ 4) (hg : g < 256 ∧ g % 16 ≤ 4 ∧ g / 16 ≤ 4) (hh : h < 256 ∧ h % 16 ≤ 4 ∧ h / 16 ≤ 4) :
    b8 a b c d e f g h / 16 + b8 a b c d e f g h < 18446744073709551616 := by
  have hs : b8 a b c d e f g h / 16 + b8 a b c d e f g h = b8 (a / 16 + 16 * (b % 16) + a) (b / 16 + 16 * (c % 16) + b) (c / 16 + 16 * (d % 16) + c) (d / 16 + 16 * (e % 16) + d) (e / 16 + 16 * (f % 16) + e) (f / 16 + 16 * (g % 16) + f) (g / 16 + 16 * (h % 16) + g) (h / 16 + h) := by
    unfold b8; simp only [nibble, par16, add_step]
  rw [hs]
  exact b8_lt (s3_byte a ha.1 ha.2.1 ha.2.2 (b % 16) (by omega)).1 (s3_byte b hb.1 hb.2.1 hb.2.2 (c % 16) (by omega)).1 (s3_byte c hc.1 hc.2.1 hc.2.2 (d % 16) (by omega)).1 (s3_byte d hd.1 hd.2.1 hd.2.2 (e % 16) (by omega)).1
    (s3_byte e he.1 he.2.1 he.2.2 (f % 16) (by omega)).1 (s3_byte f hf.1 hf.2.1 hf.2.2 (g % 16) (by omega)).1 (s3_byte g hg.1 hg.2.1 hg.2.2 (h % 16) (by omega)).1 (s3_byte h hh.1 hh.2.1 hh.2.2 0 (by omega)).1
theorem step3 {a b c d e f g h : Nat} (ha : a < 256 ∧ a % 16 ≤ 4 ∧ a / 16 ≤ 4) (hb : b < 256 ∧ b % 16 ≤ 4 ∧ b / 16 ≤ 4) (hc : c < 256 ∧ c % 16 ≤ 4 ∧ c / 16 ≤ 4) (hd : d < 256 ∧ d % 16 ≤ 4 ∧ d / 16 ≤ 4)
    (he : e < 256 ∧ e % 16 ≤ 4 ∧ e / 16 ≤ 4) (hf : f < 256 ∧ f % 16 ≤ 4 ∧ f / 16 ≤ 4) (hg : g < 256 ∧ g % 16 ≤ 4 ∧ g / 16 ≤ 4) (hh : h < 256 ∧ h % 16 ≤ 4 ∧ h / 16 ≤ 4) :
    (b8 a b c d e f g h / 16 + b8 a b c d e f g h &&& 1085102592571150095) = b8 (q3 a) (q3 b) (q3 c) (q3 d) (q3 e) (q3 f) (q3 g) (q3 h) := by
  have hm : (1085102592571150095 : Nat) = b8 15 15 15 15 15 15 15 15 := by decide
  have hs : b8 a b c d e f g h / 16 + b8 a b c d e f g h = b8 (a / 16 + 16 * (b % 16) + a) (b / 16 + 16 * (c % 16) + b) (c / 16 + 16 * (d % 16) + c) (d / 16 + 16 * (e % 16) + d) (e / 16 + 16 * (f % 16) + e) (f / 16 + 16 * (g % 16) + f) (g / 16 + 16 * (h % 16) + g) (h / 16 + h) := by
    unfold b8; simp only [nibble, par16, add_step]
  have ka := s3_byte a ha.1 ha.2.1 ha.2.2 (b % 16) (by omega)
  have kb := s3_byte b hb.1 hb.2.1 hb.2.2 (c % 16) (by omega)
  have kc := s3_byte c hc.1 hc.2.1 hc.2.2 (d % 16) (by omega)
  have kd := s3_byte d hd.1 hd.2.1 hd.2.2 (e % 16) (by omega)
  have ke := s3_byte e he.1 he.2.1 he.2.2 (f % 16) (by omega)
  have kf := s3_byte f hf.1 hf.2.1 hf.2.2 (g % 16) (by omega)
  have kg := s3_byte g hg.1 hg.2.1 hg.2.2 (h % 16) (by omega)
  have kh : h / 16 + h < 256 ∧ (h / 16 + h) &&& 15 = q3 h := s3_byte h hh.1 hh.2.1 hh.2.2 0 (by omega)
  rw [hs, hm, and_b8 ka.1 kb.1 kc.1 kd.1 ke.1 kf.1 kg.1 (by decide), ka.2, kb.2, kc.2, kd.2, ke.2, kf.2, kg.2, kh.2]
theorem down8 {r : Nat} (hr : r < 256) (y : Nat) : (r + 256 * y) / 256 = y := by omega
theorem down16 {r s : Nat} (hr : r < 256) (hs : s < 256) (y : Nat) : (r + 256 * (s + 256 * y)) / 65536 = y := by omega
theorem down32 {r s t u : Nat} (hr : r < 256) (hs : s < 256) (ht : t < 256) (hu : u < 256) (y : Nat) : (r + 256 * (s + 256 * (t + 256 * (u + 256 * y)))) / 4294967296 = y := by omega
theorem add_top (r y z : Nat) : r + 256 * y + z = (r + z) + 256 * y := by omega
theorem sum8 {a : Nat} (h : a < 256) (b c d e f g i : Nat) : b8 a b c d e f g i + b8 a b c d e f g i / 256 = b8 (a + b) (b + c) (c + d) (d + e) (e + f) (f + g) (g + i) i := by
  unfold b8; rw [down8 h]; omega
theorem sum16 {a b : Nat} (h : a < 256) (h2 : b < 256) (c d e f g i : Nat) : b8 a b c d e f g i + b8 a b c d e f g i / 65536 = b8 (a + c) (b + d) (c + e) (d + f) (e + g) (f + i) g i := by
  unfold b8; rw [down16 h h2]; omega
theorem sum32 {a b c d : Nat} (h : a < 256) (h2 : b < 256) (h3 : c < 256) (h4 : d < 256) (e f g i : Nat) : b8 a b c d e f g i + b8 a b c d e f g i / 4294967296 = b8 (a + e) (b + f) (c + g) (d + i) e f g i := by
  unfold b8; rw [down32 h h2 h3 h4]; omega
theorem b8_lt63 {a b c d e f g h : Nat} (ha : a < 256) (hb : b < 256) (hc : c < 256) (hd : d < 256) (he : e < 256) (hf : f < 256) (hg : g < 256) (hh : h < 128) : b8 a b c d e f g h < 9223372036854775808 := by unfold b8; omega
theorem b8_mod (a b c d e f g h : Nat) : b8 a b c d e f g h % 128 = a % 128 := by unfold b8; omega
/-- the sum of eight bytes of at most 8 -/
theorem step4 {a b c d e f g h : Nat} (ha : a ≤ 8) (hb : b ≤ 8) (hc : c ≤ 8) (hd : d ≤ 8) (he : e ≤ 8) (hf : f ≤ 8) (hg : g ≤ 8) (hh : h ≤ 8) {x y z u : Nat} (hx : x = b8 a b c d e f g h) (hy : y = x + x / 256) (hz : z = y + y / 65536) (hu : u = z + z / 4294967296) :
    y < 18446744073709551616 ∧ z < 18446744073709551616 ∧ u < 9223372036854775808 ∧ u % 128 = a + (b + (c + (d + (e + (f + (g + h)))))) := by
  subst hx
  rw [sum8 (by clear hy hz hu; omega)] at hy
  subst hy
  rw [sum16 (by clear hz hu; omega) (by clear hz hu; omega)] at hz
  subst hz
  rw [sum32 (by clear hu; omega) (by clear hu; omega) (by clear hu; omega) (by clear hu; omega)] at hu
  subst hu
  refine ⟨b8_lt (by omega) (by omega) (by omega) (by omega) (by omega) (by omega) (by omega) (by omega), b8_lt (by omega) (by omega) (by omega) (by omega) (by omega) (by omega) (by omega) (by omega), b8_lt63 (by omega) (by omega) (by omega) (by omega) (by omega) (by omega) (by omega) (by omega), ?_⟩
  rw [b8_mod]; omega
/-- **what OnesCount64 reckons** -/
theorem ones_eq {x : Nat} (hx : x < 18446744073709551616) : ∃ x1 x2 x3 x4 x5 x6 : Nat, x1 = (x / 2 &&& 6148914691236517205) + (x &&& 6148914691236517205) ∧ x2 = (x1 / 4 &&& 3689348814741910323) + (x1 &&& 3689348814741910323) ∧
    x3 = (x2 / 16 + x2 &&& 1085102592571150095) ∧ x4 = x3 + x3 / 256 ∧ x5 = x4 + x4 / 65536 ∧ x6 = x5 + x5 / 4294967296 ∧
    x1 < 18446744073709551616 ∧ x2 / 16 + x2 < 18446744073709551616 ∧ x4 < 18446744073709551616 ∧ x5 < 18446744073709551616 ∧ x6 < 9223372036854775808 ∧ x6 % 128 = popN x 64 := by
  obtain ⟨a, b, c, d, e, f, g, h, ha, hb, hc, hd, he, hf, hg, hh, rfl⟩ := b8_of hx
  refine ⟨_, _, _, _, _, _, rfl, rfl, rfl, rfl, rfl, rfl, ?_⟩
  rw [step1 ha hb hc hd he hf hg hh, step2 (q1_lt a ha) (q1_lt b hb) (q1_lt c hc) (q1_lt d hd) (q1_lt e he) (q1_lt f hf) (q1_lt g hg) (q1_lt h hh),
    step3 (q12_lt a ha) (q12_lt b hb) (q12_lt c hc) (q12_lt d hd) (q12_lt e he) (q12_lt f hf) (q12_lt g hg) (q12_lt h hh),
    q123 a ha, q123 b hb, q123 c hc, q123 d hd, q123 e he, q123 f hf, q123 g hg, q123 h hh, pop_b8 ha hb hc hd he hf hg]
  have k := step4 (popN_le a 8) (popN_le b 8) (popN_le c 8) (popN_le d 8) (popN_le e 8) (popN_le f 8) (popN_le g 8) (popN_le h 8) rfl rfl rfl rfl
  have l1 := b8_lt (q1_lt a ha) (q1_lt b hb) (q1_lt c hc) (q1_lt d hd) (q1_lt e he) (q1_lt f hf) (q1_lt g hg) (q1_lt h hh)
  exact ⟨l1, sum_lt (q12_lt a ha) (q12_lt b hb) (q12_lt c hc) (q12_lt d hd) (q12_lt e he) (q12_lt f hf) (q12_lt g hg) (q12_lt h hh), k.1, k.2.1, k.2.2.1, k.2.2.2⟩
theorem pop_succ (x k : Nat) : popN x (k + 1) = popN x k + (x.testBit k).toNat := rfl
theorem pop_nil (x : Nat) : popN x 0 = 0 := rfl
attribute [irreducible] popN
end Go.Proofs.YtcllbidhjggjiaaDoor
/- Pools as natural numbers: a bit set or not, the least set bit, how many are set. -/
namespace Go.Proofs.YtcllbidhjggjiaaDoor

/-- the word whose bit i is as told -/
def bitN (F i : Nat) (b : Bool) : Nat := setN F i 1 b.toNat
theorem tb_bitN {F : Nat} (hF : F < 2 ^ 64) (i : Nat) (b : Bool) (j : Nat) : (bitN F i b).testBit j = if j = i ∧ i < 64 then b else F.testBit j := by
  unfold bitN
  rw [tb_set hF]
  by_cases h : j = i ∧ i < 64
  · rw [if_pos (by omega), if_pos h, h.1, Nat.sub_self]; cases b <;> rfl
  · rw [if_neg (by omega), if_neg h]
theorem bit_lt {F : Nat} (hF : F < 2 ^ 64) (i : Nat) (b : Bool) : bitN F i b < 2 ^ 64 := set_lt hF _ _ _
theorem bit_out {F : Nat} (hF : F < 2 ^ 64) {i : Nat} (hi : 64 ≤ i) (b : Bool) : bitN F i b = F := by
  apply Nat.eq_of_testBit_eq; intro j; rw [tb_bitN hF, if_neg (by omega)]
theorem bit_same {F : Nat} (hF : F < 2 ^ 64) {i : Nat} {b : Bool} (h : F.testBit i = b) : bitN F i b = F := by
  apply Nat.eq_of_testBit_eq; intro j; rw [tb_bitN hF]; split
  · rename_i h1; rw [h1.1, h]
  · rfl
theorem bit_ne {F : Nat} (hF : F < 2 ^ 64) {i : Nat} (hi : i < 64) {b : Bool} (h : F.testBit i ≠ b) : bitN F i b ≠ F := fun e => h (by rw [← e, tb_bitN hF, if_pos ⟨rfl, hi⟩])
theorem bit_back {F : Nat} (hF : F < 2 ^ 64) {i : Nat} {a b : Bool} (h : F.testBit i = b) : bitN (bitN F i a) i b = F := by
  apply Nat.eq_of_testBit_eq; intro j; rw [tb_bitN (bit_lt hF _ _), tb_bitN hF]
  by_cases h1 : j = i ∧ i < 64
  · rw [if_pos h1, h1.1, h]
  · rw [if_neg h1, if_neg h1]
theorem bit_top {F M : Nat} (hM : M ≤ 64) (hF : F < 2 ^ M) {i : Nat} (hi : i < M) (b : Bool) : bitN F i b < 2 ^ M := by
  have h64 : F < 2 ^ 64 := Nat.lt_of_lt_of_le hF (Nat.pow_le_pow_right (by decide) hM)
  apply lt_of_tb; intro j hj
  rw [tb_bitN h64, if_neg (by omega)]
  exact Nat.testBit_lt_two_pow (Nat.lt_of_lt_of_le hF (Nat.pow_le_pow_right (by decide) hj))
theorem tb_top {F M i : Nat} (hF : F < 2 ^ M) (hi : M ≤ i) : F.testBit i = false := Nat.testBit_lt_two_pow (Nat.lt_of_lt_of_le hF (Nat.pow_le_pow_right (by decide) hi))
theorem pow_le64 {F M : Nat} (hM : M ≤ 64) (hF : F < 2 ^ M) : F < 2 ^ 64 := Nat.lt_of_lt_of_le hF (Nat.pow_le_pow_right (by decide) hM)

/-- the place of the least set bit; 64, if none is -/
def lowN' (F : Nat) : Nat := Lib.ctz 64 F
theorem low_zero : lowN' 0 = 64 := by unfold lowN' Lib.ctz; rfl
theorem low_spec {F : Nat} (h0 : F ≠ 0) (hF : F < 2 ^ 64) : lowN' F < 64 ∧ F.testBit (lowN' F) = true ∧ ∀ j, j < lowN' F → F.testBit j = false := by
  have e : lowN' F = Lib.ctzFrom 64 F := by unfold lowN' Lib.ctz; rw [if_neg h0]
  rw [e]
  obtain ⟨m, hm, hk⟩ := Lib.ctzFrom_spec 64 F (by omega) hF
  generalize Lib.ctzFrom 64 F = k at *
  refine ⟨hk, ?_, fun j hj => ?_⟩
  · rw [hm, Nat.mul_comm, Nat.testBit_mul_two_pow]; simp
  · rw [hm, Nat.mul_comm, Nat.testBit_mul_two_pow]; simp; omega
theorem low_is {F k : Nat} (hF : F < 2 ^ 64) (hk : F.testBit k = true) (hl : ∀ j, j < k → F.testBit j = false) : lowN' F = k := by
  have h0 : F ≠ 0 := by rintro rfl; simp at hk
  obtain ⟨_, h2, h3⟩ := low_spec h0 hF
  by_cases h : lowN' F < k
  · rw [hl _ h] at h2; cases h2
  · by_cases h' : k < lowN' F
    · rw [h3 _ h'] at hk; cases hk
    · omega
theorem low_top {F M : Nat} (h0 : F ≠ 0) (hM : M ≤ 64) (hF : F < 2 ^ M) : lowN' F < M := by
  obtain ⟨_, h2, _⟩ := low_spec h0 (pow_le64 hM hF)
  apply Nat.lt_of_not_le; intro h
  rw [tb_top hF h] at h2; cases h2
theorem low_def (F : Nat) : lowN' F = Lib.ctz 64 F := rfl
attribute [irreducible] lowN'
/-- the word without its least set bit -/
def takeF (F : Nat) : Nat := bitN F (lowN' F) false
theorem take_zero : takeF 0 = 0 := by unfold takeF; rw [low_zero]; exact bit_out (by decide) (Nat.le_refl _) _
theorem take_ne {F : Nat} (h0 : F ≠ 0) (hF : F < 2 ^ 64) : takeF F ≠ F := bit_ne hF (low_spec h0 hF).1 (by rw [(low_spec h0 hF).2.1]; decide)
theorem take_top {F M : Nat} (h0 : F ≠ 0) (hM : M ≤ 64) (hF : F < 2 ^ M) : takeF F < 2 ^ M := bit_top hM hF (low_top h0 hM hF) _
theorem take_lt {F : Nat} (hF : F < 2 ^ 64) : takeF F < 2 ^ 64 := bit_lt hF _ _
theorem tb_take {F : Nat} (hF : F < 2 ^ 64) (j : Nat) : (takeF F).testBit j = if j = lowN' F ∧ lowN' F < 64 then false else F.testBit j := tb_bitN hF _ _ _
theorem take_give {F : Nat} (h0 : F ≠ 0) (hF : F < 2 ^ 64) : bitN (takeF F) (lowN' F) true = F := bit_back hF (low_spec h0 hF).2.1
theorem take_def (F : Nat) : takeF F = bitN F (lowN' F) false := rfl
attribute [irreducible] takeF

/-! How many are set. -/
theorem pop_set {F : Nat} (hF : F < 2 ^ 64) {i : Nat} (hi : i < 64) (h : F.testBit i = false) : ∀ k, popN (bitN F i true) k = popN F k + (if i < k then 1 else 0)
  | 0 => by rw [pop_nil, pop_nil]; rfl
  | k + 1 => by
    rw [pop_succ, pop_succ, pop_set hF hi h k, tb_bitN hF]
    by_cases e : k = i
    · subst e
      rw [if_neg (Nat.lt_irrefl _), if_pos ⟨rfl, hi⟩, if_pos (Nat.lt_succ_self _), h]; simp
    · rw [show (if k = i ∧ i < 64 then true else F.testBit k) = F.testBit k from if_neg (fun h => e h.1)]
      by_cases h2 : i < k
      · rw [if_pos h2, if_pos (show i < k + 1 by omega)]; omega
      · rw [if_neg h2, if_neg (show ¬ i < k + 1 by omega)]; omega
theorem pop_clear {F : Nat} (hF : F < 2 ^ 64) {i : Nat} (hi : i < 64) (h : F.testBit i = true) : popN (bitN F i false) 64 + 1 = popN F 64 := by
  have e : bitN (bitN F i false) i true = F := bit_back hF h
  have := pop_set (bit_lt hF i false) hi (show (bitN F i false).testBit i = false by rw [tb_bitN hF, if_pos ⟨rfl, hi⟩]) 64
  rw [e, if_pos hi] at this
  omega
theorem pop_give {F : Nat} (hF : F < 2 ^ 64) {i : Nat} (hi : i < 64) (h : F.testBit i = false) : popN (bitN F i true) 64 = popN F 64 + 1 := by
  have := pop_set hF hi h 64
  rw [if_pos hi] at this; exact this
theorem pop_take {F : Nat} (h0 : F ≠ 0) (hF : F < 2 ^ 64) : popN (takeF F) 64 + 1 = popN F 64 := by
  unfold takeF; exact pop_clear hF (low_spec h0 hF).1 (low_spec h0 hF).2.1
theorem pop_none {x k : Nat} (h : popN x k = 0) : ∀ i, i < k → x.testBit i = false := by
  induction k with
  | zero => intro i hi; omega
  | succ k ih =>
    rw [pop_succ] at h
    intro i hi
    by_cases e : i = k
    · subst e; cases hb : x.testBit i
      · rfl
      · rw [hb] at h; simp at h
    · exact ih (by omega) i (by omega)
theorem pop_0 : popN 0 64 = 0 := by
  have : ∀ k, popN 0 k = 0 := fun k => by
    induction k with
    | zero => exact pop_nil _
    | succ k ih => rw [pop_succ, ih, Nat.zero_testBit]; rfl
  exact this 64
theorem pop_iff {F : Nat} (hF : F < 2 ^ 64) : popN F 64 = 0 ↔ F = 0 := by
  constructor
  · intro h
    apply Nat.eq_of_testBit_eq; intro j
    rw [Nat.zero_testBit]
    by_cases hj : j < 64
    · exact pop_none h j hj
    · exact tb_big hF (by omega)
  · rintro rfl; exact pop_0
theorem pop_le64 (F : Nat) : popN F 64 ≤ 64 := popN_le F 64
/-- all of M bits -/
theorem pop_all {M : Nat} (hM : M ≤ 64) : popN (2 ^ M - 1) 64 = M := by
  have : ∀ k, popN (2 ^ M - 1) k = min k M := fun k => by
    induction k with
    | zero => rw [pop_nil]; omega
    | succ k ih =>
      rw [pop_succ, ih, Nat.testBit_two_pow_sub_one]
      by_cases h : k < M
      · simp [h]; omega
      · simp [h]; omega
  rw [this]; omega
end Go.Proofs.YtcllbidhjggjiaaDoor
/- What is taken of a pool, and given back: which frames are out, and how many. -/
namespace Go.Proofs.YtcllbidhjggjiaaDoor
/-- of n frames those of tk are out; F has the bits of the others -/
def TakSt (n F : Nat) (tk : Nat → Bool) (out : Nat) : Prop := n ≤ 64 ∧ F < 2 ^ n ∧ out + popN F 64 = n ∧ ∀ j, j < n → F.testBit j = !tk j
theorem TakSt.lt64 {n F : Nat} {tk : Nat → Bool} {out : Nat} (h : TakSt n F tk out) : F < 18446744073709551616 := pow_le64 h.1 h.2.1
theorem tak_new {n : Nat} (h : n ≤ 64) : TakSt n (2 ^ n - 1) (fun _ => false) 0 := by
  refine ⟨h, by have := Nat.two_pow_pos n; omega, by rw [pop_all h]; omega, fun j hj => ?_⟩
  rw [Nat.testBit_two_pow_sub_one]; simp [hj]
theorem TakSt.zero {n : Nat} {tk : Nat → Bool} {out : Nat} (h : TakSt n 0 tk out) {j : Nat} (hj : j < n) : tk j = true := by
  have := h.2.2.2 j hj
  rw [Nat.zero_testBit] at this
  cases hb : tk j
  · rw [hb] at this; cases this
  · rfl
theorem TakSt.low {n F : Nat} {tk : Nat → Bool} {out : Nat} (h : TakSt n F tk out) (h0 : F ≠ 0) :
    lowN' F < n ∧ (∀ j, j < lowN' F → tk j = true) ∧ tk (lowN' F) = false ∧ TakSt n (takeF F) (fun j => if j = lowN' F then true else tk j) (out + 1) := by
  have hL := low_top h0 h.1 h.2.1
  obtain ⟨l1, l2, l3⟩ := low_spec h0 h.lt64
  refine ⟨hL, fun j hj => ?_, ?_, h.1, take_top h0 h.1 h.2.1, ?_, fun j hj => ?_⟩
  · have := h.2.2.2 j (by omega)
    rw [l3 j hj] at this
    cases hb : tk j
    · rw [hb] at this; cases this
    · rfl
  · have := h.2.2.2 _ hL
    rw [l2] at this
    cases hb : tk (lowN' F)
    · rfl
    · rw [hb] at this; cases this
  · have := pop_take h0 h.lt64
    have := h.2.2.1
    omega
  · rw [tb_take h.lt64]
    by_cases e : j = lowN' F
    · rw [if_pos ⟨e, l1⟩]; simp [e]
    · rw [if_neg (fun h => e h.1)]; simp only [if_neg e]; exact h.2.2.2 j hj
theorem TakSt.give {n F : Nat} {tk : Nat → Bool} {out : Nat} (h : TakSt n F tk out) {k : Nat} (hk : k < n) (ht : tk k = true) :
    F.testBit k = false ∧ 1 ≤ out ∧ TakSt n (bitN F k true) (fun j => if j = k then false else tk j) (out - 1) := by
  have hb : F.testBit k = false := by rw [h.2.2.2 k hk, ht]; rfl
  have hp := pop_give h.lt64 (show k < 64 by have := h.1; omega) hb
  have hF := bit_top h.1 h.2.1 hk true
  have h1 : popN (bitN F k true) 64 ≤ n := by
    have : popN (bitN F k true) 64 ≤ popN (2 ^ n - 1) 64 := by
      have key : ∀ (x y : Nat), (∀ i, x.testBit i = true → y.testBit i = true) → ∀ m, popN x m ≤ popN y m := by
        intro x y hxy m
        induction m with
        | zero => rw [pop_nil, pop_nil]; exact Nat.le_refl _
        | succ m ih =>
          rw [pop_succ, pop_succ]
          have : (x.testBit m).toNat ≤ (y.testBit m).toNat := by
            cases hx : x.testBit m
            · simp
            · rw [hxy m hx]; exact Nat.le_refl _
          omega
      refine key _ _ (fun i hi => ?_) 64
      rw [Nat.testBit_two_pow_sub_one]
      by_cases hin : i < n
      · simp [hin]
      · rw [tb_top hF (by omega)] at hi; cases hi
    rwa [pop_all h.1] at this
  have h2 := h.2.2.1
  refine ⟨hb, by omega, h.1, hF, by omega, fun j hj => ?_⟩
  rw [tb_bitN h.lt64]
  by_cases e : j = k
  · rw [if_pos ⟨e, by have := h.1; omega⟩]; simp [e]
  · rw [if_neg (fun h => e h.1)]; simp only [if_neg e]; exact h.2.2.2 j hj
theorem TakSt.out_le {n F : Nat} {tk : Nat → Bool} {out : Nat} (h : TakSt n F tk out) : out ≤ n ∧ popN F 64 = n - out := by have := h.2.2.1; omega
attribute [irreducible] TakSt
end Go.Proofs.YtcllbidhjggjiaaDoor
/- All frames of a pool taken, one behind the other, and given back in whatever order. -/
namespace Go.Proofs.YtcllbidhjggjiaaDoor

/-- the bits behind k takes -/
def tkF (F : Nat) : Nat → Nat
  | 0 => F
  | k + 1 => takeF (tkF F k)
/-- the place that is taken then -/
def tkL (F k : Nat) : Nat := lowN' (tkF F k)
theorem tkF_lt {F : Nat} (hF : F < 2 ^ 64) : ∀ k, tkF F k < 2 ^ 64
  | 0 => hF
  | k + 1 => take_lt (tkF_lt hF k)
theorem tkF_pop {F : Nat} (hF : F < 2 ^ 64) : ∀ k, k ≤ popN F 64 → popN (tkF F k) 64 = popN F 64 - k
  | 0, _ => rfl
  | k + 1, h => by
    have ih := tkF_pop hF k (by omega)
    have h0 : tkF F k ≠ 0 := by intro e; rw [e, pop_0] at ih; omega
    have := pop_take h0 (tkF_lt hF k)
    simp only [tkF]; omega
theorem tkF_ne {F k : Nat} (hF : F < 2 ^ 64) (h : k < popN F 64) : tkF F k ≠ 0 := by
  intro e
  have := tkF_pop hF k (by omega)
  rw [e, pop_0] at this; omega
theorem tkF_end {F : Nat} (hF : F < 2 ^ 64) : tkF F (popN F 64) = 0 := (pop_iff (tkF_lt hF _)).1 (by rw [tkF_pop hF _ (Nat.le_refl _)]; omega)
theorem tkF_bit {F : Nat} (hF : F < 2 ^ 64) : ∀ k, k ≤ popN F 64 → ∀ b, (tkF F k).testBit b = true ↔ F.testBit b = true ∧ ∀ j, j < k → tkL F j ≠ b
  | 0, _, b => by simp [tkF]
  | k + 1, h, b => by
    have ih := tkF_bit hF k (by omega) b
    have hl := (low_spec (tkF_ne hF (show k < popN F 64 by omega)) (tkF_lt hF k)).1
    simp only [tkF]
    rw [tb_take (tkF_lt hF k)]
    by_cases e : b = tkL F k
    · rw [if_pos ⟨e, hl⟩]
      constructor
      · intro h; cases h
      · intro h; exact absurd e.symm (h.2 k (by omega))
    · rw [if_neg (fun h => e h.1), ih]
      constructor
      · intro h
        refine ⟨h.1, fun j hj => ?_⟩
        by_cases ej : j = k
        · rw [ej]; exact fun h => e h.symm
        · exact h.2 j (by omega)
      · intro h; exact ⟨h.1, fun j hj => h.2 j (by omega)⟩
theorem tkL_bit {F k : Nat} (hF : F < 2 ^ 64) (h : k < popN F 64) : tkL F k < 64 ∧ (tkF F k).testBit (tkL F k) = true := by
  have := low_spec (tkF_ne hF h) (tkF_lt hF k)
  exact ⟨this.1, this.2.1⟩
theorem tkL_F {F k : Nat} (hF : F < 2 ^ 64) (h : k < popN F 64) : F.testBit (tkL F k) = true := ((tkF_bit hF k (by omega) _).1 (tkL_bit hF h).2).1
theorem tkL_ne {F j k : Nat} (hF : F < 2 ^ 64) (hj : j < k) (h : k < popN F 64) : tkL F j ≠ tkL F k := ((tkF_bit hF k (by omega) _).1 (tkL_bit hF h).2).2 j hj
theorem tkL_inj {F j k : Nat} (hF : F < 2 ^ 64) (hj : j < popN F 64) (hk : k < popN F 64) (h : tkL F j = tkL F k) : j = k := by
  by_cases h1 : j < k
  · exact absurd h (tkL_ne hF h1 hk)
  · by_cases h2 : k < j
    · exact absurd h.symm (tkL_ne hF h2 hj)
    · omega
theorem tkL_rise {F k : Nat} (hF : F < 2 ^ 64) (h : k + 1 < popN F 64) : tkL F k < tkL F (k + 1) := by
  obtain ⟨_, _, hlow⟩ := low_spec (tkF_ne hF (show k < popN F 64 by omega)) (tkF_lt hF k)
  have hb := (tkL_bit hF h).2
  have hne := tkL_ne hF (show k < k + 1 by omega) h
  apply Nat.lt_of_not_le; intro hle
  have hlt : tkL F (k + 1) < tkL F k := by omega
  have h0 := hlow _ hlt
  have h1 := (tkF_bit hF (k + 1) (by omega) _).1 hb
  have h2 := (tkF_bit hF k (by omega) (tkL F (k + 1))).2 ⟨h1.1, fun j hj => h1.2 j (by omega)⟩
  rw [h0] at h2; cases h2
theorem tkL_all {F b : Nat} (hF : F < 2 ^ 64) (h : F.testBit b = true) : ∃ j, j < popN F 64 ∧ tkL F j = b := by
  have h1 := tkF_bit hF (popN F 64) (Nat.le_refl _) b
  rw [tkF_end hF, Nat.zero_testBit] at h1
  apply Classical.byContradiction; intro hn
  have := h1.2 ⟨h, fun j hj e => hn ⟨j, hj, e⟩⟩
  cases this

/-- the bits behind k gifts, from the turn t on -/
def gvF (F N t : Nat) : Nat → Nat
  | 0 => 0
  | k + 1 => bitN (gvF F N t k) (tkL F ((k + t) % N)) true
theorem gvF_lt (F N t : Nat) : ∀ k, gvF F N t k < 2 ^ 64
  | 0 => by simp [gvF]
  | k + 1 => bit_lt (gvF_lt F N t k) _ _
theorem gvF_bit {F N t : Nat} (hF : F < 2 ^ 64) (hN : N = popN F 64) : ∀ k, k ≤ N → ∀ b, (gvF F N t k).testBit b = true ↔ ∃ j, j < k ∧ tkL F ((j + t) % N) = b
  | 0, _, b => by simp [gvF]
  | k + 1, h, b => by
    have ih := gvF_bit (t := t) hF hN k (by omega) b
    have hm : (k + t) % N < popN F 64 := by rw [← hN]; exact Nat.mod_lt _ (by omega)
    have hl := (tkL_bit hF hm).1
    simp only [gvF]
    rw [tb_bitN (gvF_lt F N t k)]
    by_cases e : b = tkL F ((k + t) % N)
    · rw [if_pos ⟨e, hl⟩]
      exact ⟨fun _ => ⟨k, by omega, e.symm⟩, fun _ => rfl⟩
    · rw [if_neg (fun h => e h.1), ih]
      constructor
      · rintro ⟨j, hj, he⟩; exact ⟨j, by omega, he⟩
      · rintro ⟨j, hj, he⟩
        by_cases ej : j = k
        · rw [ej] at he; exact absurd he.symm e
        · exact ⟨j, by omega, he⟩
theorem mod_inj {N t i j : Nat} (hi : i < N) (hj : j < N) (h : (i + t) % N = (j + t) % N) : i = j := by
  have key : ∀ a b : Nat, a < N → b < N → a < b → (a + t) % N = (b + t) % N → False := by
    intro a b ha hb hab h
    have h1 : (b - a) % N = 0 := by
      have : (b + t) - (a + t) = b - a := by omega
      rw [← this]
      exact Nat.sub_mod_eq_zero_of_mod_eq h.symm
    rw [Nat.mod_eq_of_lt (by omega)] at h1
    omega
  by_cases h1 : i < j
  · exact (key i j hi hj h1 h).elim
  · by_cases h2 : j < i
    · exact (key j i hj hi h2 h.symm).elim
    · omega
theorem gvF_new {F N t k : Nat} (hF : F < 2 ^ 64) (hN : N = popN F 64) (hk : k < N) : (gvF F N t k).testBit (tkL F ((k + t) % N)) = false := by
  cases hb : (gvF F N t k).testBit (tkL F ((k + t) % N))
  · rfl
  · obtain ⟨j, hj, e⟩ := (gvF_bit hF hN k (by omega) _).1 hb
    have h1 : (j + t) % N < popN F 64 := by rw [← hN]; exact Nat.mod_lt _ (by omega)
    have h2 : (k + t) % N < popN F 64 := by rw [← hN]; exact Nat.mod_lt _ (by omega)
    have := mod_inj (by omega) hk (tkL_inj hF h1 h2 e)
    omega
theorem gvF_end {F N t : Nat} (hF : F < 2 ^ 64) (hN : N = popN F 64) : gvF F N t N = F := by
  apply Nat.eq_of_testBit_eq; intro b
  rw [Bool.eq_iff_iff, gvF_bit hF hN N (Nat.le_refl _)]
  constructor
  · rintro ⟨j, hj, rfl⟩
    exact tkL_F hF (by rw [← hN]; exact Nat.mod_lt _ (by omega))
  · intro h
    obtain ⟨i, hi, rfl⟩ := tkL_all hF h
    have hN0 : 0 < N := by omega
    refine ⟨(i + (N - t % N)) % N, Nat.mod_lt _ hN0, ?_⟩
    congr 1
    have ht := Nat.mod_lt t hN0
    have e : i + (N - t % N) + t = i + N * (1 + t / N) := by
      have := Nat.div_add_mod t N
      rw [Nat.mul_add, Nat.mul_one]; omega
    rw [Nat.mod_add_mod, e, Nat.add_mul_mod_self_left, Nat.mod_eq_of_lt (by omega)]
end Go.Proofs.YtcllbidhjggjiaaDoor
