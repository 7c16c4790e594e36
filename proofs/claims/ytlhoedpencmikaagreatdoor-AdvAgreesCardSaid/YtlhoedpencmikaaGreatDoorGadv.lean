/- Layer 17, as plain values: a translation brought in, a way let go, one picked; memories that differ by bits A of leaves alone. No program. -/
import Derived.Test.YtlhoedpencmikaaGreatDoorMhartg
namespace Go.Proofs.YtlhoedpencmikaaGreatDoor
set_option linter.unusedVariables false
set_option linter.unusedSimpArgs false

/-! what befalls the buffer -/
def brB (S : Nat) (M : List (Nat × Nat)) (h : Hr) (a : Nat) : Bool := decide (h.sp.md = 8) && decide ((lookN S M h.sp.pp a).so = 0)
def brF (S : Nat) (M : List (Nat × Nat)) (h : Hr) (a : Nat) : Lf := { (lookN S M h.sp.pp a).lf with pt := usedP (lookN S M h.sp.pp a).lf.pt false }
def brM (S : Nat) (M : List (Nat × Nat)) (h : Hr) (a : Nat) : List (Nat × Nat) := if brB S M h a then markL M (lookN S M h.sp.pp a).lf.at' false else M
def brH (S : Nat) (M : List (Nat × Nat)) (h : Hr) (a : Nat) : Hr := if brB S M h a then { h with L := putT (ofE (brF S M h a) a h.sp.ai) h.vi h.L, vi := -1 } else h
def evB (h : Hr) (s w : Int) : Bool := decide (0 ≤ s ∧ s < (h.L.length : Int) ∧ 0 ≤ w ∧ w ≤ 3)
def evH (h : Hr) (s w : Int) : Hr := if evB h s w then { h with L := dropT h.L s.toNat w.toNat } else h
def piB (w : Int) : Bool := decide (0 ≤ w ∧ w ≤ 3)
def piH (h : Hr) (w : Int) : Hr := if piB w then { h with vi := w } else h
theorem br_yes {S : Nat} {M : List (Nat × Nat)} {h : Hr} {a : Nat} (hb : brB S M h a = true) : h.sp.md = 8 ∧ (lookN S M h.sp.pp a).so = 0 ∧ brM S M h a = markL M (lookN S M h.sp.pp a).lf.at' false ∧ brH S M h a = { h with L := putT (ofE (brF S M h a) a h.sp.ai) h.vi h.L, vi := -1 } := by
  have h2 := hb
  unfold brB at h2
  simp only [Bool.and_eq_true, decide_eq_true_iff] at h2
  exact ⟨h2.1, h2.2, by unfold brM; rw [hb, if_pos rfl], by unfold brH; rw [hb, if_pos rfl]⟩
theorem br_no {S : Nat} {M : List (Nat × Nat)} {h : Hr} {a : Nat} (hb : brB S M h a = false) : brM S M h a = M ∧ brH S M h a = h := ⟨by unfold brM; rw [hb]; rfl, by unfold brH; rw [hb]; rfl⟩
/-- what is put, when a translation is brought in -/
structure Brings (S : Nat) (M : List (Nat × Nat)) (h : Hr) (a : Nat) : Prop where
  va : vaB (a : Int) = true
  lf : LeafOf S M (lookN S M h.sp.pp a).lf
  le : leafE (brF S M h a) = true
  may : mayE (ofE (brF S M h a) a h.sp.ai) = true
  v : (ofE (brF S M h a) a h.sp.ai).v = true
  ag : AgP S (brM S M h a) h.sp.pp (ofE (brF S M h a) a h.sp.ai)
  lk : lookN S (brM S M h a) h.sp.pp a = ⟨0, brF S M h a⟩
theorem brings {S : Nat} {M : List (Nat × Nat)} {h : Hr} {a : Nat} (hM : RL (S / 8) M) (ha : a < 18446744073709551616) (hn : h.sp.ai < 65536) (hb : brB S M h a = true) : Brings S M h a := by
  obtain ⟨-, h1, e2, -⟩ := br_yes hb
  obtain ⟨hva, hlf⟩ := look_leaf h1
  have hm := look_mark hM false h1
  have hlk : lookN S (brM S M h a) h.sp.pp a = ⟨0, brF S M h a⟩ := by rw [e2, hm]; unfold brF; rfl
  have hle : leafE (brF S M h a) = true := by unfold brF; rw [leafE_used]; exact leaf_may hlf
  have hpt : (brF S M h a).pt = usedP (lookN S M h.sp.pp a).lf.pt false := by unfold brF; exact upd_pt _ _
  have hpa : (brF S M h a).pt.a = true := by rw [hpt, used_a]
  obtain ⟨v1, v2, v3, v4, v5, v6⟩ := ofE_v (brF S M h a) a h.sp.ai
  have hmay := ofE_may hle a hn
  have hcov := ofE_cova hle h.sp.ai ha hva
  have hpm2 := ofE_pm (brF S M h a) a h.sp.ai
  have hd2 := ofE_d (brF S M h a) a h.sp.ai
  clear e2 hm hpt
  obtain ⟨F, hF⟩ : ∃ F, brF S M h a = F := ⟨_, rfl⟩
  obtain ⟨K, hK⟩ : ∃ K, brM S M h a = K := ⟨_, rfl⟩
  obtain ⟨e, hE⟩ : ∃ e, ofE F a h.sp.ai = e := ⟨_, rfl⟩
  rw [hF] at hlk hle hpa v2 v3 v5 v6 hpm2 hd2 v1 v4 hmay hcov
  rw [hK] at hlk
  rw [hE] at v1 v2 v3 v4 v5 v6 hmay hcov hpm2 hd2
  have s1 : (lookN S K h.sp.pp a).so = 0 := by rw [hlk]
  have s2 : (lookN S K h.sp.pp a).lf = F := by rw [hlk]
  have hnear : lookN S K h.sp.pp (fstN e) = lookN S K h.sp.pp a := by
    refine look_near s1 (by rw [fst_eq]; exact of_va _) fun l l1 l2 => ?_
    rw [fst_eq]
    exact (cov_idx hmay hcov (by omega) (by rw [v2, ← s2]; exact l1) l2).symm
  subst hE hK hF
  refine ⟨hva, hlf, hle, hmay, v1, ⟨?_, ?_, ?_, ?_, fun hd => ?_, ?_⟩, hlk⟩
  · rw [hnear]; exact s1
  · rw [hnear, s2, v2]
  · rw [hnear, s2, v3]
  · rw [hnear, s2]; exact hpa
  · rw [hnear, s2, ← hd2]; exact hd
  · rw [hnear, s2, hpm2]; exact less_self _
/-- what stays, whatever befalls the buffer -/
structure Stays (h g : Hr) : Prop where
  r : rightH g = true
  sp : g.sp = h.sp
  pr : g.pr = h.pr
  su : g.su = h.su
  mx : g.mx = h.mx
  len : g.L.length = h.L.length
theorem Stays.refl {h : Hr} (hr : rightH h = true) : Stays h h := ⟨hr, rfl, rfl, rfl, rfl, rfl⟩
theorem Stays.trans {h g f : Hr} (k1 : Stays h g) (k2 : Stays g f) : Stays h f := ⟨k2.r, k2.sp.trans k1.sp, k2.pr.trans k1.pr, k2.su.trans k1.su, k2.mx.trans k1.mx, k2.len.trans k1.len⟩
theorem br_stays {S : Nat} {M : List (Nat × Nat)} {h : Hr} {a : Nat} (hr : rightH h = true) (hM : RL (S / 8) M) (ha : a < 18446744073709551616) : Stays h (brH S M h a) := by
  obtain ⟨r1, r2, r3⟩ := right_split hr
  cases hb : brB S M h a
  · rw [(br_no hb).2]; exact Stays.refl hr
  · have B := brings hM ha (sm_fits r2).2.1 hb
    rw [(br_yes hb).2.2.2]
    exact ⟨right_join (rt_put r1 B.may _) r2 r3, rfl, rfl, rfl, rfl, putT_len _ _ _⟩
theorem brM_is {S : Nat} {M : List (Nat × Nat)} {h : Hr} {a : Nat} (hM : RL (S / 8) M) (h8 : S % 8 = 0) :
    RL (S / 8) (brM S M h a) ∧ (brM S M h a = M ∨ ∃ p, p % 8 = 0 ∧ p < S ∧ leafB (entN M p) = true ∧ brM S M h a = markL M p false) := by
  cases hb : brB S M h a
  · rw [(br_no hb).1]; exact ⟨hM, .inl rfl⟩
  · obtain ⟨-, h1, e2, -⟩ := br_yes hb
    obtain ⟨-, hlf⟩ := look_leaf h1
    have hlt := hlf.lt
    rw [e2]
    exact ⟨mark_is hM (by omega) _, .inr ⟨_, hlf.al, hlt, hlf.leaf, rfl⟩⟩
theorem brM_len {S : Nat} {M : List (Nat × Nat)} {h : Hr} {a : Nat} : (brM S M h a).length ≤ M.length + 1 := by
  unfold brM
  split
  · exact markL_len _ _ _
  · omega
theorem br_ag {S : Nat} {M : List (Nat × Nat)} {h : Hr} {a : Nat} (hr : rightH h = true) (hM : RL (S / 8) M) (ha : a < 18446744073709551616) (hag : agH S M h = true) : agH S (brM S M h a) (brH S M h a) = true := by
  obtain ⟨r1, r2, r3⟩ := right_split hr
  cases hb : brB S M h a
  · rw [(br_no hb).1, (br_no hb).2]; exact hag
  · have B := brings hM ha (sm_fits r2).2.1 hb
    rw [(br_yes hb).2.2.2]
    refine ag_of fun e he hm => ?_
    rcases put_mem r1 _ _ he with rfl | he'
    · exact B.ag
    · show AgP S (brM S M h a) h.sp.pp e
      rw [(br_yes hb).2.2.1]
      exact ag_mark hM B.lf.al B.lf.leaf _ (ag_at hag he' hm)
/-! a way let go, one picked -/
theorem drop_mem {L : List St} {i w : Nat} (hi : i < L.length) (hw : w < 4) {x : En} (hx : x ∈ allT (dropT L i w)) : x ∈ allT L := by
  have hd : dropT L i w = L.set i ((sT L i).put w e0) := by unfold dropT; rfl
  rw [hd] at hx
  unfold allT at hx
  rw [List.mem_flatMap] at hx
  obtain ⟨s, hs, hx⟩ := hx
  obtain ⟨j, hj, hst⟩ := mem_sT hs
  rw [List.length_set] at hj
  obtain ⟨hv, k, hk, rfl⟩ := mem_ls hx
  rw [sT_set hi] at hst
  by_cases hji : j = i
  · rw [if_pos hji] at hst
    subst hst
    rw [show ((sT L i).put w e0).ws = (sT L i).ws.put w e0 from rfl, at_put hw hk] at hv ⊢
    by_cases hkw : k = w
    · rw [if_pos hkw, e0_v] at hv; cases hv
    · rw [if_neg hkw] at hv ⊢; exact all_mem hi hk hv
  · rw [if_neg hji] at hst
    subst hst
    exact all_mem hj hk hv
theorem ev_cases {h : Hr} {s w : Int} (hb : evB h s w = true) : s.toNat < h.L.length ∧ w.toNat < 4 ∧ ((s.toNat : Nat) : Int) = s ∧ ((w.toNat : Nat) : Int) = w ∧ evH h s w = { h with L := dropT h.L s.toNat w.toNat } := by
  have h2 := hb
  unfold evB at h2
  rw [decide_eq_true_iff] at h2
  refine ⟨by omega, by omega, by omega, by omega, by unfold evH; rw [hb, if_pos rfl]⟩
theorem ev_stays {h : Hr} (hr : rightH h = true) (s w : Int) : Stays h (evH h s w) := by
  obtain ⟨r1, r2, r3⟩ := right_split hr
  cases hb : evB h s w
  · have : evH h s w = h := by unfold evH; rw [hb]; rfl
    rw [this]; exact Stays.refl hr
  · obtain ⟨h1, h2, -, -, h5⟩ := ev_cases hb
    rw [h5]
    exact ⟨right_join (rt_drop r1 h1 h2) r2 r3, rfl, rfl, rfl, rfl, by show (dropT _ _ _).length = _; unfold dropT; rw [List.length_set]⟩
theorem ev_ag {S : Nat} {M : List (Nat × Nat)} {h : Hr} (hag : agH S M h = true) (s w : Int) : agH S M (evH h s w) = true := by
  cases hb : evB h s w
  · have : evH h s w = h := by unfold evH; rw [hb]; rfl
    rw [this]; exact hag
  · obtain ⟨h1, h2, -, -, h5⟩ := ev_cases hb
    rw [h5]
    exact ag_of fun e he hm => ag_at hag (drop_mem h1 h2 he) hm
theorem pi_stays {h : Hr} (hr : rightH h = true) (w : Int) : Stays h (piH h w) := by
  obtain ⟨r1, r2, r3⟩ := right_split hr
  unfold piH
  split
  · exact ⟨right_join r1 r2 r3, rfl, rfl, rfl, rfl, rfl⟩
  · exact Stays.refl hr
theorem pi_ag {S : Nat} {M : List (Nat × Nat)} {h : Hr} (hag : agH S M h = true) (w : Int) : agH S M (piH h w) = true := by
  unfold piH
  split
  · exact ag_of fun e he hm => ag_at hag he hm
  · exact hag
end Go.Proofs.YtlhoedpencmikaaGreatDoor
/- Layer 17, as plain values: memories that differ by bits A of leaves alone, and what accesses come to in both. No program. -/
namespace Go.Proofs.YtlhoedpencmikaaGreatDoor
set_option linter.unusedVariables false
set_option linter.unusedSimpArgs false

/-! words that differ by bit 6 alone, where bit 0 is set -/
def LowW (w v : Nat) : Prop := v = w ∨ (w % 2 = 1 ∧ w / 64 % 2 = 0 ∧ v = w + 64)
def LowL (M N : List (Nat × Nat)) : Prop := ∀ r, LowW (wordL M r) (wordL N r)
theorem low_mark {w v : Nat} (hw : w < 18446744073709551616) (hv : v < 18446744073709551616) (h : LowW w v) (d : Bool) : LowW (markN w d) (markN v d) := by
  rw [mark_ar hw, mark_ar hv]
  rcases h with rfl | ⟨h1, h2, rfl⟩
  · exact .inl rfl
  · have e1 : (w + 64) / 64 % 2 = 1 := by omega
    have e2 : (w + 64) / 128 = w / 128 := by omega
    rw [e1, e2, if_pos rfl, h2, if_neg (by decide)]
    exact .inl (by omega)
theorem low_byte {w v : Nat} (h : LowW w v) (k : Nat) : byteN v k = byteN w k ∨ (k = 0 ∧ byteN w 0 % 2 = 1 ∧ byteN w 0 / 64 % 2 = 0 ∧ byteN v 0 = byteN w 0 + 64) := by
  rcases h with rfl | ⟨h1, h2, rfl⟩
  · exact .inl rfl
  · cases k with
    | zero =>
      refine .inr ⟨rfl, ?_⟩
      unfold byteN
      rw [Nat.pow_zero, Nat.div_one, Nat.div_one]
      omega
    | succ n =>
      refine .inl ?_
      rw [byteN_succ, byteN_succ, show (w + 64) / 256 = w / 256 by omega]
theorem bit_byte (v i : Nat) : v / 2 ^ i % 2 = byteN v (i / 8) / 2 ^ (i % 8) % 2 := by
  have hi : i = 8 * (i / 8) + i % 8 := by omega
  have h8 : i % 8 < 8 := Nat.mod_lt _ (by decide)
  unfold byteN
  generalize i / 8 = q at *
  generalize i % 8 = r at *
  subst hi
  rw [Nat.pow_add, Nat.pow_mul, ← Nat.div_div_eq_div_mul, show 2 ^ 8 = 256 from rfl]
  generalize v / 256 ^ q = x
  rcases (by omega : r = 0 ∨ r = 1 ∨ r = 2 ∨ r = 3 ∨ r = 4 ∨ r = 5 ∨ r = 6 ∨ r = 7) with rfl | rfl | rfl | rfl | rfl | rfl | rfl | rfl <;> simp only [Nat.reducePow] <;> omega
/-- what is loaded differs by bits 6 of bytes alone -/
theorem low_load {M N : List (Nat × Nat)} (h : LowL M N) (a s i : Nat) (hi : i % 8 ≠ 6) : loadL N a s / 2 ^ i % 2 = loadL M a s / 2 ^ i % 2 := by
  rw [bit_byte (loadL N a s), bit_byte (loadL M a s), loadL_byte, loadL_byte]
  split
  · unfold byteL
    rcases low_byte (h ((a + i / 8) / 8)) ((a + i / 8) % 8) with e | ⟨e0, e1, e2, e3⟩
    · rw [e]
    · rw [e0, e3]
      generalize byteN (wordL M ((a + i / 8) / 8)) 0 = x at *
      have h8 : i % 8 < 8 := Nat.mod_lt _ (by decide)
      generalize i % 8 = r at *
      rcases (by omega : r = 0 ∨ r = 1 ∨ r = 2 ∨ r = 3 ∨ r = 4 ∨ r = 5 ∨ r = 7) with rfl | rfl | rfl | rfl | rfl | rfl | rfl <;> simp only [Nat.reducePow] <;> omega
  · rfl
theorem low_nil {M N : List (Nat × Nat)} (h : LowL M N) (hM : M.length = 0) (a s : Nat) : loadL N a s = loadL M a s := by
  obtain rfl : M = [] := List.length_eq_zero_iff.1 hM
  unfold loadL
  congr 1
  refine rowN_congr fun k _ => ?_
  unfold byteL
  rcases h ((a + k) / 8) with e | ⟨e1, -, -⟩
  · rw [e]
  · exact absurd e1 (by simp [wordL])
/-! how many cells there are -/
theorem ones_is {n : Nat} {L : List (Nat × Nat)} (h : RL n L) : RL n (L.map fun c => (c.1, 1)) := by
  refine ⟨List.pairwise_map.2 h.1, fun c hc => ?_⟩
  obtain ⟨x, hx, rfl⟩ := List.mem_map.1 hc
  exact ⟨Nat.one_ne_zero, show 1 < 18446744073709551616 by decide, (h.2 x hx).2.2⟩
theorem ones_word {n : Nat} {L : List (Nat × Nat)} (h : RL n L) (p : Nat) : wordL (L.map fun c => (c.1, 1)) p = if wordL L p = 0 then 0 else 1 := by
  by_cases hc : ∃ c ∈ L, c.1 = p
  · obtain ⟨c, hc, rfl⟩ := hc
    rw [wordL_mem h c hc, if_neg (h.2 c hc).1]
    exact wordL_mem (ones_is h) (c.1, 1) (List.mem_map.2 ⟨c, hc, rfl⟩)
  · have hn : ∀ c ∈ L, c.1 ≠ p := fun c hx he => hc ⟨c, hx, he⟩
    rw [wordL_none hn, wordL_none fun c hx => ?_, if_pos rfl]
    obtain ⟨y, hy, rfl⟩ := List.mem_map.1 hx
    exact hn y hy
theorem len_same {n m : Nat} {L K : List (Nat × Nat)} (hL : RL n L) (hK : RL m K) (h : ∀ p, wordL K p = 0 ↔ wordL L p = 0) : K.length = L.length := by
  have := RL.ext (ones_is hK) (ones_is hL) fun p => by
    rw [ones_word hK, ones_word hL]
    by_cases e : wordL L p = 0
    · rw [if_pos e, if_pos ((h p).2 e)]
    · rw [if_neg e, if_neg fun q => e ((h p).1 q)]
  simpa using congrArg List.length this
theorem low_zero {w v : Nat} (h : LowW w v) : v = 0 ↔ w = 0 := by
  rcases h with rfl | ⟨h1, -, rfl⟩ <;> omega
theorem low_new {w v : Nat} (h : LowW w v) (o s u : Nat) (hs : 0 < s) : newW v o s u = 0 ↔ newW w o s u = 0 := by
  rcases h with rfl | h
  · exact Iff.rfl
  · have hb := low_byte (Or.inr h)
    cases o with
    | zero =>
      have : newW v 0 s u = newW w 0 s u := by
        unfold newW
        congr 1
        refine rowN_congr fun k _ => ?_
        unfold putW
        by_cases hk : 0 ≤ k ∧ k < 0 + s
        · rw [if_pos hk, if_pos hk]
        · rw [if_neg hk, if_neg hk]
          rcases hb k with e | ⟨e, -⟩
          · exact e
          · omega
      rw [this]
    | succ o =>
      have h1 : ∀ x, byteN (newW x (o + 1) s u) 0 = byteN x 0 := fun x => by
        rw [newW_byte _ _ _ _ (by decide)]
        unfold putW
        rw [if_neg (by omega)]
      have h0 : byteN 0 0 = 0 := rfl
      obtain ⟨a1, a2, rfl⟩ := h
      constructor <;> intro hz <;> exfalso
      · have := h1 (w + 64)
        rw [hz, h0] at this
        unfold byteN at this
        rw [Nat.pow_zero, Nat.div_one] at this
        omega
      · have := h1 w
        rw [hz, h0] at this
        unfold byteN at this
        rw [Nat.pow_zero, Nat.div_one] at this
        omega
/-! memories of which some leaves were marked -/
structure Sil (S : Nat) (M N : List (Nat × Nat)) : Prop where
  is : RL (S / 8) N
  low : LowL M N
  so : ∀ r a, (lookN S N r a).so = (lookN S M r a).so
  place : ∀ r a, (lookN S N r a).lf.at' = (lookN S M r a).lf.at'
  lv : ∀ r a, (lookN S N r a).lf.lv = (lookN S M r a).lf.lv
  pp : ∀ r a, (lookN S N r a).lf.pt.pp = (lookN S M r a).lf.pt.pp
  pm : ∀ r a, permP (lookN S N r a).lf.pt = permP (lookN S M r a).lf.pt
theorem Sil.refl {S : Nat} {M : List (Nat × Nat)} (hM : RL (S / 8) M) : Sil S M M := ⟨hM, fun _ => .inl rfl, fun _ _ => rfl, fun _ _ => rfl, fun _ _ => rfl, fun _ _ => rfl, fun _ _ => rfl⟩
theorem Sil.mark {S : Nat} {M N : List (Nat × Nat)} (h : Sil S M N) (h8 : S % 8 = 0) {p : Nat} (hp : p % 8 = 0) (hlt : p < S) (hl : leafB (entN N p) = true) : Sil S M (markL N p false) := by
  have hq := fun r a => look_marks (S := S) h.is hp hl false r a
  have hv : wordL N (p / 8) % 2 = 1 := by
    unfold leafB entN getP at hl
    rw [Bool.and_eq_true] at hl
    have := hl.1
    simp only [Nat.testBit_zero, decide_eq_true_iff] at this
    exact this
  refine ⟨mark_is h.is (by omega) _, fun r => ?_, fun r a => ?_, fun r a => ?_, fun r a => ?_, fun r a => ?_, fun r a => ?_⟩
  · rw [mark_word h.is hp]
    split
    · rename_i hr
      subst hr
      rw [mark_ar (wordL_lt h.is _)]
      simp only [Bool.false_eq_true, false_and, if_false, Nat.add_zero]
      rcases h.low (p / 8) with e | ⟨e1, e2, e3⟩
      · rw [e] at hv ⊢
        by_cases h6 : wordL M (p / 8) / 64 % 2 = 1
        · rw [if_pos h6]; exact .inl rfl
        · rw [if_neg h6]; exact .inr ⟨hv, by omega, rfl⟩
      · rw [e3, if_pos (by omega)]; exact .inr ⟨e1, e2, rfl⟩
    · exact h.low r
  · rw [hq, markW_so]; exact h.so r a
  · rw [hq, markW_at]; exact h.place r a
  · rw [hq, markW_lv]; exact h.lv r a
  · rw [hq]; rcases markW_pt p false (lookN S N r a) with e | e <;> rw [e]
    · exact h.pp r a
    · rw [used_pp]; exact h.pp r a
  · rw [hq]; rcases markW_pt p false (lookN S N r a) with e | e <;> rw [e]
    · exact h.pm r a
    · rw [perm_used]; exact h.pm r a
theorem Sil.br {S : Nat} {M N : List (Nat × Nat)} (h : Sil S M N) (h8 : S % 8 = 0) (x : Hr) (a : Nat) : Sil S M (brM S N x a) := by
  rcases (brM_is (h := x) (a := a) h.is h8).2 with e | ⟨p, e1, e2, e3, e4⟩
  · rw [e]; exact h
  · rw [e4]; exact h.mark h8 e1 e2 e3
/-! what an access comes to in both -/
theorem low_marks {m : Nat} {M N : List (Nat × Nat)} (hM : RL m M) (hN : RL m N) (h : LowL M N) {p : Nat} (hp : p % 8 = 0) (d : Bool) : LowL (markL M p d) (markL N p d) := fun r => by
  rw [mark_word hM hp, mark_word hN hp]
  by_cases hr : r = p / 8
  · rw [if_pos hr, if_pos hr]; exact low_mark (wordL_lt hM _) (wordL_lt hN _) (h _) d
  · rw [if_neg hr, if_neg hr]; exact h r
structure Both (S : Nat) (M : List (Nat × Nat)) (h : Hr) (N : List (Nat × Nat)) (g : Hr) (k a s v : Nat) : Prop where
  f : (accR S N g k a s).f = (accR S M h k a s).f
  vl : (accR S N g k a s).v = (accR S M h k a s).v ∨ (0 < M.length ∧ ∀ i, i % 8 ≠ 6 → (accR S N g k a s).v / 2 ^ i % 2 = (accR S M h k a s).v / 2 ^ i % 2)
  len : (accM S N g k a s v).length = (accM S M h k a s v).length
theorem both {S : Nat} {M N : List (Nat × Nat)} {h g : Hr} (hr : rightH h = true) (hM : RL (S / 8) M) (h8 : S % 8 = 0) (ha : agH S M h = true) (hS : Sil S M N) (hg : Stays h g) (hag : agH S N g = true) {k a s v : Nat} (hk : k < 3) (hs : 0 < s) : Both S M h N g k a s v := by
  obtain ⟨r1, r2, r3⟩ := right_split hr
  obtain ⟨f1, f2⟩ := flat (a := a) r1 hM h8 ha hk s v
  obtain ⟨f3, f4⟩ := flat (a := a) (right_split hg.r).1 hS.is h8 hag hk s v
  suffices H : Both S M (bareH h) N (bareH g) k a s v from ⟨by rw [← f1, ← f3]; exact H.f, by rw [← f1, ← f3]; exact H.vl, by rw [← f2, ← f4]; exact H.len⟩
  clear f1 f2 f3 f4
  have hw : wayH (bareH g) k = wayH (bareH h) k := by unfold wayH bareH; rw [hg.pr, hg.su, hg.mx]
  have hsp : (bareH g).sp = (bareH h).sp := by unfold bareH; exact hg.sp
  have hL : (bareH h).L.length = 0 := by unfold bareH; rfl
  have hL2 : (bareH g).L.length = 0 := by unfold bareH; rfl
  generalize bareH g = g' at *
  generalize bareH h = h' at *
  have n1 := hit_none hL k a
  have n2 := hit_none hL2 k a
  have ws : walkS S N h'.sp.pp a (wayH h' k) = walkS S M h'.sp.pp a (wayH h' k) := by
    unfold walkS; rw [hS.so, hS.pm]
  have so : soH S N g' k a = soH S M h' k a := by
    unfold soH; rw [n1, n2, hsp, hw, ws]
  have at2 : soH S M h' k a = 0 → atH S N g' k a = atH S M h' k a := fun h0 => by
    unfold atH; rw [n1, n2, hsp, hw]
    by_cases h8' : h'.sp.md = 8
    · simp only [h8', if_true, Bool.false_eq_true, if_false]
      unfold walkF
      rw [ws]
      split
      · rw [phy_used, phy_used]; unfold phyN; rw [hS.lv, hS.pp]
      · rfl
    · simp only [h8', if_false]
  have low : LowL (mH S M h' k a) (mH S N g' k a) ∧ RL (S / 8) (mH S M h' k a) ∧ RL (S / 8) (mH S N g' k a) ∧ (M.length = 0 → (mH S M h' k a).length = 0) := by
    unfold mH; rw [n1, n2, hsp, hw]
    by_cases h8' : h'.sp.md = 8
    · simp only [h8', if_true, Bool.false_eq_true, if_false]
      unfold walkL
      rw [ws, hS.place]
      split
      · rename_i h0
        obtain ⟨l1, -⟩ := walk_allow h0
        have hlf := (look_leaf l1).2
        have hlt := hlf.lt
        refine ⟨low_marks hM hS.is hS.low hlf.al _, mark_is hM (by omega) _, mark_is hS.is (by omega) _, fun hz => ?_⟩
        exfalso
        obtain rfl : M = [] := List.length_eq_zero_iff.1 hz
        have hq := hlf.leaf
        unfold leafB entN getP at hq
        rw [Bool.and_eq_true] at hq
        exact absurd hq.1 (by simp [wordL])
      · exact ⟨hS.low, hM, hS.is, id⟩
    · simp only [h8', if_false]; exact ⟨hS.low, hM, hS.is, id⟩
  obtain ⟨low, m1, m2, m0⟩ := low
  have st : stopH S N g' k a s = stopH S M h' k a s := by unfold stopH; rw [so]
  refine ⟨?_, ?_, ?_⟩
  · unfold accR
    rw [so]
    split
    · split
      · rename_i h0
        rw [at2 h0]
        split <;> rfl
      · rfl
    · rfl
  · unfold accR
    rw [so]
    split
    · split
      · rename_i h0
        rw [at2 h0]
        split
        · by_cases hk2 : k = 2
          · rw [if_pos hk2, if_pos hk2]; exact .inl rfl
          · rw [if_neg hk2, if_neg hk2]
            rcases Nat.eq_zero_or_pos M.length with hz | hz
            · exact .inl (low_nil low (m0 hz) _ _)
            · exact .inr ⟨hz, fun i hi => low_load low _ _ i hi⟩
        · exact .inl rfl
      · exact .inl rfl
    · exact .inl rfl
  · unfold accM
    rw [st]
    cases hst : stopH S M h' k a s
    · have h0 : soH S M h' k a = 0 := (stop_no hst).2
      simp only [Bool.false_eq_true, if_false]
      rw [at2 h0]
      split
      · rename_i hk2
        refine len_same (storeL_is m1 (by omega) _ _) (storeL_is m2 (by omega) _ _) fun p => ?_
        rw [storeL_word, storeL_word]
        split
        · exact low_new (low _) _ _ _ hs
        · exact low_zero (low _)
      · exact len_same m1 m2 fun p => low_zero (low p)
    · simp only [if_true]
      exact len_same hM hS.is fun p => low_zero (hS.low p)
/-- a word, beside its bit A, is as it was -/
theorem br_word {S : Nat} {M : List (Nat × Nat)} {h : Hr} {a : Nat} (hM : RL (S / 8) M) (h8 : S % 8 = 0) (r : Nat) : wordL (brM S M h a) r ||| 64 = wordL M r ||| 64 := by
  rcases (brM_is (h := h) (a := a) hM h8).2 with e | ⟨p, hp, -, -, e⟩
  · rw [e]
  · rw [e, mark_word hM hp]
    split
    · rename_i hr
      rw [mark_or (wordL_lt hM _), hr, if_neg (by decide), Nat.or_assoc, Nat.or_self]
    · rfl
attribute [irreducible] brB brF brM brH evB evH piB piH
end Go.Proofs.YtlhoedpencmikaaGreatDoor
