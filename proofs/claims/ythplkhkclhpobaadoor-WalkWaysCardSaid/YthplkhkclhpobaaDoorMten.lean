/- A walk of tables as plain numbers: what it comes to, what a mark makes of a word. -/
import Derived.Test.YthplkhkclhpobaaDoorGtwo
import Derived.Test.YthplkhkclhpobaaDoorMsix
import Derived.Test.YthplkhkclhpobaaDoorMnine
import Derived.Test.YthplkhkclhpobaaDoorGst
import Derived.Test.YthplkhkclhpobaaDoorMeight
namespace Go.Proofs.YthplkhkclhpobaaDoor
set_option linter.unusedVariables false
set_option linter.unusedSimpArgs false

def zPt : Pt := ⟨false, false, false, false, false, false, false, false, 0, 0, 0⟩
def zLf : Lf := ⟨0, 0, zPt⟩
def usedP (p : Pt) (d : Bool) : Pt := { p with a := true, d := p.d || d }
def globP (p : Pt) (g : Bool) : Pt := { p with g := g }
def placeN (t a : Nat) (l : Int) : Nat := t * 4096 + (idxI (a : Int) l).toNat * 8
def entN (L : List (Nat × Nat)) (k : Nat) : Pt := getP (wordL L (k / 8))
/-- what a walk comes to: 0 a leaf, 1 an access fault, 2 a page fault; the leaf -/
structure Wk where
  so : Nat
  lf : Lf
deriving DecidableEq
def stepW (S : Nat) (L : List (Nat × Nat)) (a : Nat) (l : Int) (t : Nat) (g : Bool) (next : Wk) : Wk :=
  if S ≤ placeN t a l then ⟨1, zLf⟩
  else if badB (entN L (placeN t a l)) l then ⟨2, zLf⟩
  else if leafB (entN L (placeN t a l)) then ⟨0, ⟨l, placeN t a l, globP (entN L (placeN t a l)) (g || (entN L (placeN t a l)).g)⟩⟩
  else next
def downN (S : Nat) (L : List (Nat × Nat)) (a : Nat) : Nat → Nat → Bool → Wk
  | 0, t, g => stepW S L a 0 t g ⟨2, zLf⟩
  | n + 1, t, g => stepW S L a ((n + 1 : Nat) : Int) t g (downN S L a n (entN L (placeN t a ((n + 1 : Nat) : Int))).pp (g || (entN L (placeN t a ((n + 1 : Nat) : Int))).g))
def lookN (S : Nat) (L : List (Nat × Nat)) (r a : Nat) : Wk := if vaB (a : Int) then downN S L a 2 r false else ⟨2, zLf⟩
def fltF (so kd a : Nat) : Ft := if so = 0 then ⟨false, 0, 0⟩ else ⟨true, cauI (3 * so + kd), a⟩
def markN (w : Nat) (d : Bool) : Nat := putN (usedP (getP w) d)
def markL (L : List (Nat × Nat)) (k : Nat) (d : Bool) : List (Nat × Nat) := storeL L k 8 (markN (wordL L (k / 8)) d)

theorem idx_nat (a : Nat) (l : Int) : (idxI (a : Int) l).toNat < 512 := by have := idx_lt (a : Int) l; omega
theorem idx_cast (a : Nat) (l : Int) : (((idxI (a : Int) l).toNat : Nat) : Int) = idxI (a : Int) l := by have := idx_lt (a : Int) l; omega
theorem place_8 (t a : Nat) (l : Int) : placeN t a l % 8 = 0 := by unfold placeN; omega
theorem place_lt {t a : Nat} (l : Int) (ht : t < 17592186044416) : placeN t a l < 72057594037932032 := by
  have := idx_nat a l
  unfold placeN; omega
theorem ent_pp (L : List (Nat × Nat)) (k : Nat) : (entN L k).pp < 17592186044416 := by
  unfold entN getP
  exact Nat.mod_lt _ (by decide)
theorem ent_hi {m : Nat} {L : List (Nat × Nat)} (h : RL m L) (k : Nat) : (entN L k).ok := ok_get (wordL_lt h _)

/-! leaves, links, what is bad -/
theorem bad_used {p : Pt} (h : leafB p = true) (d : Bool) (l : Int) : badB (usedP p d) l = badB p l := by
  unfold leafB at h
  have h2 : (p.r || p.x) = true := by simp only [Bool.and_eq_true] at h; exact h.2
  unfold badB usedP
  simp only [h2, if_true]
theorem leaf_used (p : Pt) (d : Bool) : leafB (usedP p d) = leafB p := by unfold leafB usedP; rfl
theorem perm_used (p : Pt) (d : Bool) : permP (usedP p d) = permP p := by unfold permP usedP; rfl
theorem perm_glob (p : Pt) (g : Bool) : permP (globP p g) = permP p := by unfold permP globP; rfl
theorem not_leaf_low {p : Pt} (h : badB p 0 = false) : leafB p = true := by
  unfold badB at h
  unfold leafB
  revert h
  cases p.v <;> cases p.r <;> cases p.x <;> simp
theorem link_of {p : Pt} {l : Int} (h : badB p l = false) : linkB p = !leafB p := by
  unfold badB at h
  unfold linkB leafB
  revert h
  cases p.v <;> cases p.r <;> cases p.x <;> simp
theorem used_used (p : Pt) (d e : Bool) : usedP (usedP p d) e = usedP p (d || e) := by
  unfold usedP; simp [Bool.or_assoc]
theorem glob_used (p : Pt) (g d : Bool) : globP (usedP p d) g = usedP (globP p g) d := rfl
theorem may_used (p : Pt) (d : Bool) : mayB (usedP p d) = mayB p := by unfold mayB usedP; rfl

/-! a word that is marked -/
theorem mark_lt {w : Nat} (h : w < 18446744073709551616) (d : Bool) : markN w d < 18446744073709551616 := put_lt (by rw [may_used]; exact may_get h)
theorem get_mark {w : Nat} (h : w < 18446744073709551616) (d : Bool) : getP (markN w d) = usedP (getP w) d := get_put (by rw [may_used]; exact may_get h)
theorem put_used (p : Pt) (d : Bool) : putN (usedP p d) = putN p + 64 * (!p.a).toNat + 128 * (d && !p.d).toNat := by
  obtain ⟨v, r, w, x, u, g, a, e, rs, pp, hi⟩ := p
  unfold putN usedP
  simp only [bsum, ptB]
  cases a <;> cases e <;> cases d <;> simp <;> omega
theorem get_a (w : Nat) : (getP w).a = decide (w / 64 % 2 = 1) := by unfold getP; exact Nat.testBit_eq_decide_div_mod_eq
theorem get_d (w : Nat) : (getP w).d = decide (w / 128 % 2 = 1) := by unfold getP; exact Nat.testBit_eq_decide_div_mod_eq
theorem mark_ar {w : Nat} (h : w < 18446744073709551616) (d : Bool) : markN w d = w + (if w / 64 % 2 = 1 then 0 else 64) + (if d = true ∧ ¬ w / 128 % 2 = 1 then 128 else 0) := by
  unfold markN
  rw [put_used, put_get h, get_a, get_d]
  by_cases h1 : w / 64 % 2 = 1 <;> by_cases h2 : w / 128 % 2 = 1 <;> cases d <;> simp [h1, h2]
theorem mark_pos {w : Nat} (h : w < 18446744073709551616) (d : Bool) : markN w d ≠ 0 := by
  rw [mark_ar h]
  split
  · omega
  · omega
theorem mark_mark {w : Nat} (h : w < 18446744073709551616) (d e : Bool) : markN (markN w d) e = markN w (d || e) := by
  unfold markN
  rw [get_put (by rw [may_used]; exact may_get h), used_used]

theorem newW_all (W : Nat) {v : Nat} (h : v < 18446744073709551616) : newW W 0 8 v = v :=
  byte_ext (newW_lt W 0 8 v) h fun k hk => by
    rw [newW_byte W 0 8 v hk]; unfold putW; rw [if_pos (by omega)]; simp
theorem store8_word {L : List (Nat × Nat)} {k v : Nat} (h : k % 8 = 0) (hv : v < 18446744073709551616) (r : Nat) : wordL (storeL L k 8 v) r = if r = k / 8 then v else wordL L r := by
  rw [storeL_word, h, newW_all _ hv]
theorem store8_self {m : Nat} {L : List (Nat × Nat)} (hL : RL m L) {k : Nat} (h : k % 8 = 0) (hk : k / 8 < m) : storeL L k 8 (wordL L (k / 8)) = L :=
  RL.ext (storeL_is hL hk 8 _) hL fun p => by
    rw [store8_word h (wordL_lt hL _)]; split
    · rename_i e; rw [e]
    · rfl
theorem store8_cut {L : List (Nat × Nat)} {k v : Nat} (h : k % 8 = 0) (hv : v < 18446744073709551616) : storeL L k 8 v = cutL L (k / 8) (k / 8 + 1) (if v = 0 then [] else [(k / 8, v)]) := by
  unfold storeL
  rw [h, newW_all _ hv]
theorem mark_word {m : Nat} {L : List (Nat × Nat)} (hL : RL m L) {k : Nat} (h : k % 8 = 0) (d : Bool) (r : Nat) : wordL (markL L k d) r = if r = k / 8 then markN (wordL L (k / 8)) d else wordL L r :=
  store8_word h (mark_lt (wordL_lt hL _) d) r
theorem mark_is {m : Nat} {L : List (Nat × Nat)} (hL : RL m L) {k : Nat} (hk : k / 8 < m) (d : Bool) : RL m (markL L k d) := storeL_is hL hk 8 _
theorem mark_same {m : Nat} {L : List (Nat × Nat)} (hL : RL m L) {k : Nat} (h : k % 8 = 0) (hk : k / 8 < m) {d : Bool} (he : markN (wordL L (k / 8)) d = wordL L (k / 8)) : markL L k d = L := by
  unfold markL; rw [he]; exact store8_self hL h hk
theorem markL_len (L : List (Nat × Nat)) (k : Nat) (d : Bool) : (markL L k d).length ≤ L.length + 1 := storeL_len L k 8 _
/-- the entry at a place, where another word was marked, or this one -/
theorem ent_mark {m : Nat} {L : List (Nat × Nat)} (hL : RL m L) {k : Nat} (h : k % 8 = 0) (d : Bool) (j : Nat) : entN (markL L k d) j = if j / 8 = k / 8 then usedP (entN L k) d else entN L j := by
  unfold entN
  rw [mark_word hL h]
  split
  · exact get_mark (wordL_lt hL _) d
  · rfl
theorem mark_twice {m : Nat} {L : List (Nat × Nat)} (hL : RL m L) {k : Nat} (h : k % 8 = 0) (hk : k / 8 < m) (d e : Bool) (hde : (d || e) = d) : markL (markL L k d) k e = markL L k d := by
  refine mark_same (mark_is hL hk d) h hk ?_
  rw [mark_word hL h, if_pos rfl, mark_mark (wordL_lt hL _), hde]

/-! what a walk comes to -/
theorem step_cases (S : Nat) (L : List (Nat × Nat)) (a : Nat) (l : Int) (t : Nat) (g : Bool) (next : Wk) :
    (S ≤ placeN t a l ∧ stepW S L a l t g next = ⟨1, zLf⟩) ∨ (placeN t a l < S ∧ badB (entN L (placeN t a l)) l = true ∧ stepW S L a l t g next = ⟨2, zLf⟩) ∨
    (placeN t a l < S ∧ badB (entN L (placeN t a l)) l = false ∧ leafB (entN L (placeN t a l)) = true ∧ stepW S L a l t g next = ⟨0, ⟨l, placeN t a l, globP (entN L (placeN t a l)) (g || (entN L (placeN t a l)).g)⟩⟩) ∨
    (placeN t a l < S ∧ badB (entN L (placeN t a l)) l = false ∧ leafB (entN L (placeN t a l)) = false ∧ stepW S L a l t g next = next) := by
  unfold stepW
  by_cases h1 : S ≤ placeN t a l
  · exact .inl ⟨h1, if_pos h1⟩
  rw [if_neg h1]
  cases h2 : badB (entN L (placeN t a l)) l
  · cases h3 : leafB (entN L (placeN t a l))
    · exact .inr (.inr (.inr ⟨by omega, rfl, rfl, by simp⟩))
    · exact .inr (.inr (.inl ⟨by omega, rfl, rfl, by simp⟩))
  · exact .inr (.inl ⟨by omega, rfl, by simp⟩)
theorem down_cases (S : Nat) (L : List (Nat × Nat)) (a n t : Nat) (g : Bool) :
    (S ≤ placeN t a (n : Int) ∧ downN S L a n t g = ⟨1, zLf⟩) ∨ (placeN t a (n : Int) < S ∧ badB (entN L (placeN t a (n : Int))) n = true ∧ downN S L a n t g = ⟨2, zLf⟩) ∨
    (placeN t a (n : Int) < S ∧ badB (entN L (placeN t a (n : Int))) n = false ∧ leafB (entN L (placeN t a (n : Int))) = true ∧ downN S L a n t g = ⟨0, ⟨n, placeN t a (n : Int), globP (entN L (placeN t a (n : Int))) (g || (entN L (placeN t a (n : Int))).g)⟩⟩) ∨
    (placeN t a (n : Int) < S ∧ badB (entN L (placeN t a (n : Int))) n = false ∧ leafB (entN L (placeN t a (n : Int))) = false ∧ ∃ k, n = k + 1 ∧ downN S L a n t g = downN S L a k (entN L (placeN t a (n : Int))).pp (g || (entN L (placeN t a (n : Int))).g)) := by
  cases n with
  | zero =>
    rw [downN]
    rcases step_cases S L a ((0 : Nat) : Int) t g ⟨2, zLf⟩ with h | h | h | ⟨h1, h2, h3, h4⟩
    · exact .inl h
    · exact .inr (.inl h)
    · exact .inr (.inr (.inl h))
    · exact absurd (not_leaf_low h2) (by rw [h3]; decide)
  | succ n =>
    rw [downN]
    rcases step_cases S L a ((n + 1 : Nat) : Int) t g (downN S L a n (entN L (placeN t a ((n + 1 : Nat) : Int))).pp (g || (entN L (placeN t a ((n + 1 : Nat) : Int))).g)) with h | h | h | ⟨h1, h2, h3, h4⟩
    · exact .inl h
    · exact .inr (.inl h)
    · exact .inr (.inr (.inl h))
    · exact .inr (.inr (.inr ⟨h1, h2, h3, n, rfl, h4⟩))
/-- what holds of a leaf that a walk came to -/
structure LeafOf (S : Nat) (L : List (Nat × Nat)) (f : Lf) : Prop where
  l0 : 0 ≤ f.lv
  l2 : f.lv ≤ 2
  al : f.at' % 8 = 0
  lt : f.at' < S
  bad : badB (entN L f.at') f.lv = false
  leaf : leafB (entN L f.at') = true
  pt : f.pt = globP (entN L f.at') f.pt.g
theorem down_leaf {S : Nat} {L : List (Nat × Nat)} {a : Nat} : ∀ {n t : Nat} {g : Bool}, n ≤ 2 → (downN S L a n t g).so = 0 → LeafOf S L (downN S L a n t g).lf
  | 0, t, g, hn, h => by
    rw [downN] at h ⊢
    rcases step_cases S L a 0 t g ⟨2, zLf⟩ with ⟨_, e⟩ | ⟨_, _, e⟩ | ⟨h1, h2, h3, e⟩ | ⟨_, _, _, e⟩
    · rw [e] at h; simp at h
    · rw [e] at h; simp at h
    · rw [e]; exact ⟨by simp, by simp, place_8 _ _ _, h1, h2, h3, rfl⟩
    · rw [e] at h; simp at h
  | n + 1, t, g, hn, h => by
    rw [downN] at h ⊢
    rcases step_cases S L a ((n + 1 : Nat) : Int) t g (downN S L a n (entN L (placeN t a ((n + 1 : Nat) : Int))).pp (g || (entN L (placeN t a ((n + 1 : Nat) : Int))).g)) with ⟨_, e⟩ | ⟨_, _, e⟩ | ⟨h1, h2, h3, e⟩ | ⟨_, _, _, e⟩
    · rw [e] at h; simp at h
    · rw [e] at h; simp at h
    · rw [e]; exact ⟨by simp; omega, by simp; omega, place_8 _ _ _, h1, h2, h3, rfl⟩
    · rw [e] at h ⊢; exact down_leaf (by omega) h
theorem down_none {S : Nat} {L : List (Nat × Nat)} {a : Nat} : ∀ {n t : Nat} {g : Bool}, (downN S L a n t g).so ≠ 0 → ((downN S L a n t g).so = 1 ∨ (downN S L a n t g).so = 2) ∧ (downN S L a n t g).lf = zLf
  | 0, t, g, h => by
    rw [downN] at h ⊢
    rcases step_cases S L a 0 t g ⟨2, zLf⟩ with ⟨_, e⟩ | ⟨_, _, e⟩ | ⟨h1, h2, h3, e⟩ | ⟨_, _, _, e⟩
    · rw [e]; simp
    · rw [e]; simp
    · rw [e] at h; simp at h
    · rw [e]; simp
  | n + 1, t, g, h => by
    rw [downN] at h ⊢
    rcases step_cases S L a ((n + 1 : Nat) : Int) t g (downN S L a n (entN L (placeN t a ((n + 1 : Nat) : Int))).pp (g || (entN L (placeN t a ((n + 1 : Nat) : Int))).g)) with ⟨_, e⟩ | ⟨_, _, e⟩ | ⟨h1, h2, h3, e⟩ | ⟨_, _, _, e⟩
    · rw [e]; simp
    · rw [e]; simp
    · rw [e] at h; simp at h
    · rw [e] at h ⊢; exact down_none h
theorem look_leaf {S : Nat} {L : List (Nat × Nat)} {r a : Nat} (h : (lookN S L r a).so = 0) : vaB (a : Int) = true ∧ LeafOf S L (lookN S L r a).lf := by
  unfold lookN at h ⊢
  cases hv : vaB (a : Int)
  · rw [hv] at h; simp at h
  · rw [hv] at h; simp only [if_true] at h ⊢
    exact ⟨trivial, down_leaf (Nat.le_refl _) h⟩
theorem look_none {S : Nat} {L : List (Nat × Nat)} {r a : Nat} (h : (lookN S L r a).so ≠ 0) : ((lookN S L r a).so = 1 ∨ (lookN S L r a).so = 2) ∧ (lookN S L r a).lf = zLf := by
  unfold lookN at h ⊢
  cases hv : vaB (a : Int)
  · simp
  · rw [hv] at h; simp only [if_true] at h ⊢
    exact down_none h
/-- a walk, where the leaf to which it came was marked: the leaf, marked -/
theorem down_mark {S m : Nat} {L : List (Nat × Nat)} (hL : RL m L) {a : Nat} (d : Bool) : ∀ {n t : Nat} {g : Bool}, n ≤ 2 → (downN S L a n t g).so = 0 →
    downN S (markL L (downN S L a n t g).lf.at' d) a n t g = ⟨0, { (downN S L a n t g).lf with pt := usedP (downN S L a n t g).lf.pt d }⟩
  | 0, t, g, hn, h => by
    rw [downN] at h
    rcases step_cases S L a 0 t g ⟨2, zLf⟩ with ⟨_, e⟩ | ⟨_, _, e⟩ | ⟨h1, h2, h3, e⟩ | ⟨_, _, _, e⟩
    · rw [e] at h; simp at h
    · rw [e] at h; simp at h
    · rw [show downN S L a 0 t g = _ from e]
      rw [downN]
      have he := ent_mark hL (place_8 t a 0) d (placeN t a 0)
      rw [if_pos rfl] at he
      unfold stepW
      simp only [he]
      rw [if_neg (by omega), bad_used h3, h2, leaf_used, h3]
      rfl
    · rw [e] at h; simp at h
  | n + 1, t, g, hn, h => by
    have hl := down_leaf hn h
    rw [downN] at h
    rcases step_cases S L a ((n + 1 : Nat) : Int) t g (downN S L a n (entN L (placeN t a ((n + 1 : Nat) : Int))).pp (g || (entN L (placeN t a ((n + 1 : Nat) : Int))).g)) with ⟨_, e⟩ | ⟨_, _, e⟩ | ⟨h1, h2, h3, e⟩ | ⟨h1, h2, h3, e⟩
    · rw [e] at h; simp at h
    · rw [e] at h; simp at h
    · rw [show downN S L a (n + 1) t g = _ from e]
      rw [downN]
      have he := ent_mark hL (place_8 t a ((n + 1 : Nat) : Int)) d (placeN t a ((n + 1 : Nat) : Int))
      rw [if_pos rfl] at he
      unfold stepW
      simp only [he]
      rw [if_neg (by omega), bad_used h3, h2, leaf_used, h3]
      rfl
    · have e' : downN S L a (n + 1) t g = downN S L a n (entN L (placeN t a ((n + 1 : Nat) : Int))).pp (g || (entN L (placeN t a ((n + 1 : Nat) : Int))).g) := e
      rw [e] at h
      have ih := down_mark hL d (by omega) h
      have hl2 := down_leaf (show n ≤ 2 by omega) h
      rw [e']
      generalize hf : (downN S L a n (entN L (placeN t a ((n + 1 : Nat) : Int))).pp (g || (entN L (placeN t a ((n + 1 : Nat) : Int))).g)).lf = f at ih hl2 ⊢
      have hne : ¬ placeN t a ((n + 1 : Nat) : Int) / 8 = f.at' / 8 := fun hq => by
        have : entN L (placeN t a ((n + 1 : Nat) : Int)) = entN L f.at' := by unfold entN; rw [hq]
        rw [this, hl2.leaf] at h3
        cases h3
      have he := ent_mark hL hl2.al d (placeN t a ((n + 1 : Nat) : Int))
      rw [if_neg hne] at he
      rw [downN, he, ← ih]
      unfold stepW
      simp only [he]
      rw [if_neg (by omega), h2, h3]
      simp
theorem look_mark {S m : Nat} {L : List (Nat × Nat)} (hL : RL m L) {r a : Nat} (d : Bool) (h : (lookN S L r a).so = 0) :
    lookN S (markL L (lookN S L r a).lf.at' d) r a = ⟨0, { (lookN S L r a).lf with pt := usedP (lookN S L r a).lf.pt d }⟩ := by
  have hv := (look_leaf h).1
  unfold lookN at h ⊢
  rw [hv] at h ⊢
  simp only [if_true] at h ⊢
  exact down_mark hL d (Nat.le_refl _) h
/-- a walk of another address whose indexes are the same down to the leaf's level -/
theorem down_near {S : Nat} {L : List (Nat × Nat)} {a b : Nat} : ∀ {n t : Nat} {g : Bool}, n ≤ 2 → (downN S L a n t g).so = 0 → (∀ l : Int, (downN S L a n t g).lf.lv ≤ l → l ≤ n → idxI (b : Int) l = idxI (a : Int) l) →
    downN S L b n t g = downN S L a n t g
  | 0, t, g, hn, h, hi => by
    have hl := down_leaf hn h
    have hp : placeN t b 0 = placeN t a 0 := by unfold placeN; rw [hi 0 (by have := hl.l0; rw [downN] at h; rcases step_cases S L a 0 t g ⟨2, zLf⟩ with ⟨_, e⟩ | ⟨_, _, e⟩ | ⟨h1, h2, h3, e⟩ | ⟨_, _, _, e⟩ <;> (rw [downN, e]; simp [zLf])) (by simp)]
    rw [downN, downN]
    unfold stepW
    rw [hp]
  | n + 1, t, g, hn, h, hi => by
    have hl := down_leaf hn h
    have h' := h
    rw [downN] at h
    rcases step_cases S L a ((n + 1 : Nat) : Int) t g (downN S L a n (entN L (placeN t a ((n + 1 : Nat) : Int))).pp (g || (entN L (placeN t a ((n + 1 : Nat) : Int))).g)) with ⟨_, e⟩ | ⟨_, _, e⟩ | ⟨h1, h2, h3, e⟩ | ⟨h1, h2, h3, e⟩
    · rw [e] at h; simp at h
    · rw [e] at h; simp at h
    · have hp : placeN t b ((n + 1 : Nat) : Int) = placeN t a ((n + 1 : Nat) : Int) := by
        unfold placeN; rw [hi _ (by rw [show downN S L a (n + 1) t g = _ from e]; exact Int.le_refl _) (Int.le_refl _)]
      rw [show downN S L a (n + 1) t g = _ from e, downN]
      unfold stepW
      rw [hp, if_neg (by omega), h2, h3]
      rfl
    · have e' : downN S L a (n + 1) t g = downN S L a n (entN L (placeN t a ((n + 1 : Nat) : Int))).pp (g || (entN L (placeN t a ((n + 1 : Nat) : Int))).g) := e
      rw [e] at h
      rw [e'] at hi
      have hlv : (downN S L a n (entN L (placeN t a ((n + 1 : Nat) : Int))).pp (g || (entN L (placeN t a ((n + 1 : Nat) : Int))).g)).lf.lv ≤ (n : Int) := down_lv h
      have hp : placeN t b ((n + 1 : Nat) : Int) = placeN t a ((n + 1 : Nat) : Int) := by
        unfold placeN; rw [hi _ (by omega) (Int.le_refl _)]
      rw [e', downN, hp]
      rw [down_near (by omega) h fun l h1 h2 => hi l h1 (by omega)]
      unfold stepW
      rw [hp, if_neg (by omega), h2, h3]
      simp
where
  down_lv {S : Nat} {L : List (Nat × Nat)} {a : Nat} : ∀ {n t : Nat} {g : Bool}, (downN S L a n t g).so = 0 → (downN S L a n t g).lf.lv ≤ (n : Int)
    | 0, t, g, h => by
      rw [downN] at h ⊢
      rcases step_cases S L a 0 t g ⟨2, zLf⟩ with ⟨_, e⟩ | ⟨_, _, e⟩ | ⟨h1, h2, h3, e⟩ | ⟨_, _, _, e⟩ <;> (rw [e]; simp [zLf])
    | n + 1, t, g, h => by
      rw [downN] at h ⊢
      rcases step_cases S L a ((n + 1 : Nat) : Int) t g (downN S L a n (entN L (placeN t a ((n + 1 : Nat) : Int))).pp (g || (entN L (placeN t a ((n + 1 : Nat) : Int))).g)) with ⟨_, e⟩ | ⟨_, _, e⟩ | ⟨h1, h2, h3, e⟩ | ⟨_, _, _, e⟩
      · rw [e]; simp [zLf]; omega
      · rw [e]; simp [zLf]; omega
      · rw [e]; simp
      · rw [e] at h ⊢
        have := down_lv h
        omega
theorem look_near {S : Nat} {L : List (Nat × Nat)} {r a b : Nat} (h : (lookN S L r a).so = 0) (hb : vaB (b : Int) = true) (hi : ∀ l : Int, (lookN S L r a).lf.lv ≤ l → l ≤ 2 → idxI (b : Int) l = idxI (a : Int) l) : lookN S L r b = lookN S L r a := by
  have hv := (look_leaf h).1
  unfold lookN at h hi ⊢
  rw [hv] at h hi ⊢
  rw [hb]
  simp only [if_true] at h hi ⊢
  exact down_near (Nat.le_refl _) h hi
/-- a walk that asks what the leaf permits: its sort (0: none), the memory behind, the leaf -/
def walkS (S : Nat) (L : List (Nat × Nat)) (r a : Nat) (y : Wy) : Nat := if (lookN S L r a).so = 0 then (if pmAl (permP (lookN S L r a).lf.pt) y then 0 else 2) else (lookN S L r a).so
def walkL (S : Nat) (L : List (Nat × Nat)) (r a : Nat) (y : Wy) : List (Nat × Nat) := if walkS S L r a y = 0 then markL L (lookN S L r a).lf.at' (y.kd == 2) else L
def walkF (S : Nat) (L : List (Nat × Nat)) (r a : Nat) (y : Wy) : Lf := if walkS S L r a y = 0 then { (lookN S L r a).lf with pt := usedP (lookN S L r a).lf.pt (y.kd == 2) } else zLf
theorem walk_fault {S : Nat} {L : List (Nat × Nat)} {r a : Nat} {y : Wy} (h : (lookN S L r a).so ≠ 0) : walkS S L r a y = (lookN S L r a).so ∧ walkL S L r a y = L ∧ walkF S L r a y = zLf := by
  have e : walkS S L r a y = (lookN S L r a).so := by unfold walkS; rw [if_neg h]
  exact ⟨e, by unfold walkL; rw [e, if_neg h], by unfold walkF; rw [e, if_neg h]⟩
theorem walk_not {S : Nat} {L : List (Nat × Nat)} {r a : Nat} {y : Wy} (h : (lookN S L r a).so = 0) (h2 : pmAl (permP (lookN S L r a).lf.pt) y = false) : walkS S L r a y = 2 ∧ walkL S L r a y = L ∧ walkF S L r a y = zLf := by
  have e : walkS S L r a y = 2 := by unfold walkS; rw [if_pos h, h2]; rfl
  exact ⟨e, by unfold walkL; rw [e, if_neg (by decide)], by unfold walkF; rw [e, if_neg (by decide)]⟩
theorem walk_yes {S : Nat} {L : List (Nat × Nat)} {r a : Nat} {y : Wy} (h : (lookN S L r a).so = 0) (h2 : pmAl (permP (lookN S L r a).lf.pt) y = true) :
    walkS S L r a y = 0 ∧ walkL S L r a y = markL L (lookN S L r a).lf.at' (y.kd == 2) ∧ walkF S L r a y = { (lookN S L r a).lf with pt := usedP (lookN S L r a).lf.pt (y.kd == 2) } := by
  have e : walkS S L r a y = 0 := by unfold walkS; rw [if_pos h, h2]; rfl
  exact ⟨e, by unfold walkL; rw [e, if_pos rfl], by unfold walkF; rw [e, if_pos rfl]⟩
attribute [irreducible] walkS walkL walkF
attribute [irreducible] usedP globP placeN entN lookN fltF markN markL stepW
end Go.Proofs.YthplkhkclhpobaaDoor
