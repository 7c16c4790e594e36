/- A walk of tables as plain numbers: what it comes to, what a mark makes of a word. -/
import Derived.Test.YticbjiddbjgikaaDoorGtwo
import Derived.Test.YticbjiddbjgikaaDoorMsix
import Derived.Test.YticbjiddbjgikaaDoorGmei
import Derived.Test.YticbjiddbjgikaaDoorGst
namespace Go.Proofs.YticbjiddbjgikaaDoor
set_option linter.unusedVariables false
set_option linter.unusedSimpArgs false

def zPt : Pt := ⟨false, false, false, false, false, false, false, false, 0, 0, 0⟩
def zLf : Lf := ⟨0, 0, zPt⟩
def usedP (p : Pt) (d : Bool) : Pt := { p with a := true, d := p.d || d }
def globP (p : Pt) (g : Bool) : Pt := { p with g := g }
def placeN (t a : Nat) (l : Int) : Nat := t * 4096 + (idxI (a : Int) l).toNat * 8
def entN (L : List (Nat × Nat)) (k : Nat) : Pt := getP (wordL L (k / 8))
/-- what a walk comes to: 0 a leaf, 1 an access fault, 2 a page fault; the leaf -/
structure Wk where
  so : Nat
  lf : Lf
deriving DecidableEq
def stepW (S : Nat) (L : List (Nat × Nat)) (a : Nat) (l : Int) (t : Nat) (g : Bool) (next : Wk) : Wk :=
  if S ≤ placeN t a l then ⟨1, zLf⟩
  else if badB (entN L (placeN t a l)) l then ⟨2, zLf⟩
  else if leafB (entN L (placeN t a l)) then ⟨0, ⟨l, placeN t a l, globP (entN L (placeN t a l)) (g || (entN L (placeN t a l)).g)⟩⟩
  else next
def downN (S : Nat) (L : List (Nat × Nat)) (a : Nat) : Nat → Nat → Bool → Wk
  | 0, t, g => stepW S L a 0 t g ⟨2, zLf⟩
  | n + 1, t, g => stepW S L a ((n + 1 : Nat) : Int) t g (downN S L a n (entN L (placeN t a ((n + 1 : Nat) : Int))).pp (g || (entN L (placeN t a ((n + 1 : Nat) : Int))).g))
def lookN (S : Nat) (L : List (Nat × Nat)) (r a : Nat) : Wk := if vaB (a : Int) then downN S L a 2 r false else ⟨2, zLf⟩
def markN (w : Nat) (d : Bool) : Nat := putN (usedP (getP w) d)
def markL (L : List (Nat × Nat)) (k : Nat) (d : Bool) : List (Nat × Nat) := storeL L k 8 (markN (wordL L (k / 8)) d)

theorem place_8 (t a : Nat) (l : Int) : placeN t a l % 8 = 0 := by unfold placeN; omega
/-! leaves, links, what is bad -/
theorem bad_used {p : Pt} (h : leafB p = true) (d : Bool) (l : Int) : badB (usedP p d) l = badB p l := by
  unfold leafB at h
  have h2 : (p.r || p.x) = true := by simp only [Bool.and_eq_true] at h; exact h.2
  unfold badB usedP
  simp only [h2, if_true]
theorem leaf_used (p : Pt) (d : Bool) : leafB (usedP p d) = leafB p := by unfold leafB usedP; rfl
theorem perm_used (p : Pt) (d : Bool) : permP (usedP p d) = permP p := by unfold permP usedP; rfl
theorem not_leaf_low {p : Pt} (h : badB p 0 = false) : leafB p = true := by
  unfold badB at h
  unfold leafB
  revert h
  cases p.v <;> cases p.r <;> cases p.x <;> simp
theorem link_of {p : Pt} {l : Int} (h : badB p l = false) : linkB p = !leafB p := by
  unfold badB at h
  unfold linkB leafB
  revert h
  cases p.v <;> cases p.r <;> cases p.x <;> simp
theorem used_used (p : Pt) (d e : Bool) : usedP (usedP p d) e = usedP p (d || e) := by
  unfold usedP; simp [Bool.or_assoc]
theorem may_used (p : Pt) (d : Bool) : mayB (usedP p d) = mayB p := by unfold mayB usedP; rfl

/-! a word that is marked -/
theorem mark_lt {w : Nat} (h : w < 18446744073709551616) (d : Bool) : markN w d < 18446744073709551616 := put_lt (by rw [may_used]; exact may_get h)
theorem get_mark {w : Nat} (h : w < 18446744073709551616) (d : Bool) : getP (markN w d) = usedP (getP w) d := get_put (by rw [may_used]; exact may_get h)
theorem put_used (p : Pt) (d : Bool) : putN (usedP p d) = putN p + 64 * (!p.a).toNat + 128 * (d && !p.d).toNat := by
  obtain ⟨v, r, w, x, u, g, a, e, rs, pp, hi⟩ := p
  unfold putN usedP
  simp only [bsum, ptB]
  cases a <;> cases e <;> cases d <;> simp <;> omega
theorem get_a (w : Nat) : (getP w).a = decide (w / 64 % 2 = 1) := by unfold getP; exact Nat.testBit_eq_decide_div_mod_eq
theorem get_d (w : Nat) : (getP w).d = decide (w / 128 % 2 = 1) := by unfold getP; exact Nat.testBit_eq_decide_div_mod_eq
theorem mark_ar {w : Nat} (h : w < 18446744073709551616) (d : Bool) : markN w d = w + (if w / 64 % 2 = 1 then 0 else 64) + (if d = true ∧ ¬ w / 128 % 2 = 1 then 128 else 0) := by
  unfold markN
  rw [put_used, put_get h, get_a, get_d]
  by_cases h1 : w / 64 % 2 = 1 <;> by_cases h2 : w / 128 % 2 = 1 <;> cases d <;> simp [h1, h2]
theorem mark_mark {w : Nat} (h : w < 18446744073709551616) (d e : Bool) : markN (markN w d) e = markN w (d || e) := by
  unfold markN
  rw [get_put (by rw [may_used]; exact may_get h), used_used]

theorem newW_all (W : Nat) {v : Nat} (h : v < 18446744073709551616) : newW W 0 8 v = v :=
  byte_ext (newW_lt W 0 8 v) h fun k hk => by
    rw [newW_byte W 0 8 v hk]; unfold putW; rw [if_pos (by omega)]; simp
theorem store8_word {L : List (Nat × Nat)} {k v : Nat} (h : k % 8 = 0) (hv : v < 18446744073709551616) (r : Nat) : wordL (storeL L k 8 v) r = if r = k / 8 then v else wordL L r := by
  rw [storeL_word, h, newW_all _ hv]
theorem store8_self {m : Nat} {L : List (Nat × Nat)} (hL : RL m L) {k : Nat} (h : k % 8 = 0) (hk : k / 8 < m) : storeL L k 8 (wordL L (k / 8)) = L :=
  RL.ext (storeL_is hL hk 8 _) hL fun p => by
    rw [store8_word h (wordL_lt hL _)]; split
    · rename_i e; rw [e]
    · rfl
theorem store8_cut {L : List (Nat × Nat)} {k v : Nat} (h : k % 8 = 0) (hv : v < 18446744073709551616) : storeL L k 8 v = cutL L (k / 8) (k / 8 + 1) (if v = 0 then [] else [(k / 8, v)]) := by
  unfold storeL
  rw [h, newW_all _ hv]
theorem mark_word {m : Nat} {L : List (Nat × Nat)} (hL : RL m L) {k : Nat} (h : k % 8 = 0) (d : Bool) (r : Nat) : wordL (markL L k d) r = if r = k / 8 then markN (wordL L (k / 8)) d else wordL L r :=
  store8_word h (mark_lt (wordL_lt hL _) d) r
theorem mark_is {m : Nat} {L : List (Nat × Nat)} (hL : RL m L) {k : Nat} (hk : k / 8 < m) (d : Bool) : RL m (markL L k d) := storeL_is hL hk 8 _
theorem mark_same {m : Nat} {L : List (Nat × Nat)} (hL : RL m L) {k : Nat} (h : k % 8 = 0) (hk : k / 8 < m) {d : Bool} (he : markN (wordL L (k / 8)) d = wordL L (k / 8)) : markL L k d = L := by
  unfold markL; rw [he]; exact store8_self hL h hk
theorem markL_len (L : List (Nat × Nat)) (k : Nat) (d : Bool) : (markL L k d).length ≤ L.length + 1 := storeL_len L k 8 _
/-- the entry at a place, where another word was marked, or this one -/
theorem ent_mark {m : Nat} {L : List (Nat × Nat)} (hL : RL m L) {k : Nat} (h : k % 8 = 0) (d : Bool) (j : Nat) : entN (markL L k d) j = if j / 8 = k / 8 then usedP (entN L k) d else entN L j := by
  unfold entN
  rw [mark_word hL h]
  split
  · exact get_mark (wordL_lt hL _) d
  · rfl
theorem mark_twice {m : Nat} {L : List (Nat × Nat)} (hL : RL m L) {k : Nat} (h : k % 8 = 0) (hk : k / 8 < m) (d e : Bool) (hde : (d || e) = d) : markL (markL L k d) k e = markL L k d := by
  refine mark_same (mark_is hL hk d) h hk ?_
  rw [mark_word hL h, if_pos rfl, mark_mark (wordL_lt hL _), hde]

/-! what a walk comes to -/
theorem step_cases (S : Nat) (L : List (Nat × Nat)) (a : Nat) (l : Int) (t : Nat) (g : Bool) (next : Wk) :
    (S ≤ placeN t a l ∧ stepW S L a l t g next = ⟨1, zLf⟩) ∨ (placeN t a l < S ∧ badB (entN L (placeN t a l)) l = true ∧ stepW S L a l t g next = ⟨2, zLf⟩) ∨
    (placeN t a l < S ∧ badB (entN L (placeN t a l)) l = false ∧ leafB (entN L (placeN t a l)) = true ∧ stepW S L a l t g next = ⟨0, ⟨l, placeN t a l, globP (entN L (placeN t a l)) (g || (entN L (placeN t a l)).g)⟩⟩) ∨
    (placeN t a l < S ∧ badB (entN L (placeN t a l)) l = false ∧ leafB (entN L (placeN t a l)) = false ∧ stepW S L a l t g next = next) := by
  unfold stepW
  by_cases h1 : S ≤ placeN t a l
  · exact .inl ⟨h1, if_pos h1⟩
  rw [if_neg h1]
  cases h2 : badB (entN L (placeN t a l)) l
  · cases h3 : leafB (entN L (placeN t a l))
    · exact .inr (.inr (.inr ⟨by omega, rfl, rfl, by simp⟩))
    · exact .inr (.inr (.inl ⟨by omega, rfl, rfl, by simp⟩))
  · exact .inr (.inl ⟨by omega, rfl, by simp⟩)
/-- what holds of a leaf that a walk came to -/
structure LeafOf (S : Nat) (L : List (Nat × Nat)) (f : Lf) : Prop where
  l0 : 0 ≤ f.lv
  l2 : f.lv ≤ 2
  al : f.at' % 8 = 0
  lt : f.at' < S
  bad : badB (entN L f.at') f.lv = false
  leaf : leafB (entN L f.at') = true
  pt : f.pt = globP (entN L f.at') f.pt.g
theorem down_leaf {S : Nat} {L : List (Nat × Nat)} {a : Nat} : ∀ {n t : Nat} {g : Bool}, n ≤ 2 → (downN S L a n t g).so = 0 → LeafOf S L (downN S L a n t g).lf
  | 0, t, g, hn, h => by
    rw [downN] at h ⊢
    rcases step_cases S L a 0 t g ⟨2, zLf⟩ with ⟨_, e⟩ | ⟨_, _, e⟩ | ⟨h1, h2, h3, e⟩ | ⟨_, _, _, e⟩
    · rw [e] at h; simp at h
    · rw [e] at h; simp at h
    · rw [e]; exact ⟨by simp, by simp, place_8 _ _ _, h1, h2, h3, rfl⟩
    · rw [e] at h; simp at h
  | n + 1, t, g, hn, h => by
    rw [downN] at h ⊢
    rcases step_cases S L a ((n + 1 : Nat) : Int) t g (downN S L a n (entN L (placeN t a ((n + 1 : Nat) : Int))).pp (g || (entN L (placeN t a ((n + 1 : Nat) : Int))).g)) with ⟨_, e⟩ | ⟨_, _, e⟩ | ⟨h1, h2, h3, e⟩ | ⟨_, _, _, e⟩
    · rw [e] at h; simp at h
    · rw [e] at h; simp at h
    · rw [e]; exact ⟨by simp; omega, by simp; omega, place_8 _ _ _, h1, h2, h3, rfl⟩
    · rw [e] at h ⊢; exact down_leaf (by omega) h
theorem look_leaf {S : Nat} {L : List (Nat × Nat)} {r a : Nat} (h : (lookN S L r a).so = 0) : vaB (a : Int) = true ∧ LeafOf S L (lookN S L r a).lf := by
  unfold lookN at h ⊢
  cases hv : vaB (a : Int)
  · rw [hv] at h; simp at h
  · rw [hv] at h; simp only [if_true] at h ⊢
    exact ⟨trivial, down_leaf (Nat.le_refl _) h⟩
/-- a walk, where the leaf to which it came was marked: the leaf, marked -/
theorem down_mark {S m : Nat} {L : List (Nat × Nat)} (hL : RL m L) {a : Nat} (d : Bool) : ∀ {n t : Nat} {g : Bool}, n ≤ 2 → (downN S L a n t g).so = 0 →
    downN S (markL L (downN S L a n t g).lf.at' d) a n t g = ⟨0, { (downN S L a n t g).lf with pt := usedP (downN S L a n t g).lf.pt d }⟩
  | 0, t, g, hn, h => by
    rw [downN] at h
    rcases step_cases S L a 0 t g ⟨2, zLf⟩ with ⟨_, e⟩ | ⟨_, _, e⟩ | ⟨h1, h2, h3, e⟩ | ⟨_, _, _, e⟩
    · rw [e] at h; simp at h
    · rw [e] at h; simp at h
    · rw [show downN S L a 0 t g = _ from e]
      rw [downN]
      have he := ent_mark hL (place_8 t a 0) d (placeN t a 0)
      rw [if_pos rfl] at he
      unfold stepW
      simp only [he]
      rw [if_neg (by omega), bad_used h3, h2, leaf_used, h3]
      rfl
    · rw [e] at h; simp at h
  | n + 1, t, g, hn, h => by
    have hl := down_leaf hn h
    rw [downN] at h
    rcases step_cases S L a ((n + 1 : Nat) : Int) t g (downN S L a n (entN L (placeN t a ((n + 1 : Nat) : Int))).pp (g || (entN L (placeN t a ((n + 1 : Nat) : Int))).g)) with ⟨_, e⟩ | ⟨_, _, e⟩ | ⟨h1, h2, h3, e⟩ | ⟨h1, h2, h3, e⟩
    · rw [e] at h; simp at h
    · rw [e] at h; simp at h
    · rw [show downN S L a (n + 1) t g = _ from e]
      rw [downN]
      have he := ent_mark hL (place_8 t a ((n + 1 : Nat) : Int)) d (placeN t a ((n + 1 : Nat) : Int))
      rw [if_pos rfl] at he
      unfold stepW
      simp only [he]
      rw [if_neg (by omega), bad_used h3, h2, leaf_used, h3]
      rfl
    · have e' : downN S L a (n + 1) t g = downN S L a n (entN L (placeN t a ((n + 1 : Nat) : Int))).pp (g || (entN L (placeN t a ((n + 1 : Nat) : Int))).g) := e
      rw [e] at h
      have ih := down_mark hL d (by omega) h
      have hl2 := down_leaf (show n ≤ 2 by omega) h
      rw [e']
      generalize hf : (downN S L a n (entN L (placeN t a ((n + 1 : Nat) : Int))).pp (g || (entN L (placeN t a ((n + 1 : Nat) : Int))).g)).lf = f at ih hl2 ⊢
      have hne : ¬ placeN t a ((n + 1 : Nat) : Int) / 8 = f.at' / 8 := fun hq => by
        have : entN L (placeN t a ((n + 1 : Nat) : Int)) = entN L f.at' := by unfold entN; rw [hq]
        rw [this, hl2.leaf] at h3
        cases h3
      have he := ent_mark hL hl2.al d (placeN t a ((n + 1 : Nat) : Int))
      rw [if_neg hne] at he
      rw [downN, he, ← ih]
      unfold stepW
      simp only [he]
      rw [if_neg (by omega), h2, h3]
      simp
theorem look_mark {S m : Nat} {L : List (Nat × Nat)} (hL : RL m L) {r a : Nat} (d : Bool) (h : (lookN S L r a).so = 0) :
    lookN S (markL L (lookN S L r a).lf.at' d) r a = ⟨0, { (lookN S L r a).lf with pt := usedP (lookN S L r a).lf.pt d }⟩ := by
  have hv := (look_leaf h).1
  unfold lookN at h ⊢
  rw [hv] at h ⊢
  simp only [if_true] at h ⊢
  exact down_mark hL d (Nat.le_refl _) h
where
  down_lv {S : Nat} {L : List (Nat × Nat)} {a : Nat} : ∀ {n t : Nat} {g : Bool}, (downN S L a n t g).so = 0 → (downN S L a n t g).lf.lv ≤ (n : Int)
    | 0, t, g, h => by
      rw [downN] at h ⊢
      rcases step_cases S L a 0 t g ⟨2, zLf⟩ with ⟨_, e⟩ | ⟨_, _, e⟩ | ⟨h1, h2, h3, e⟩ | ⟨_, _, _, e⟩ <;> (rw [e]; simp [zLf])
    | n + 1, t, g, h => by
      rw [downN] at h ⊢
      rcases step_cases S L a ((n + 1 : Nat) : Int) t g (downN S L a n (entN L (placeN t a ((n + 1 : Nat) : Int))).pp (g || (entN L (placeN t a ((n + 1 : Nat) : Int))).g)) with ⟨_, e⟩ | ⟨_, _, e⟩ | ⟨h1, h2, h3, e⟩ | ⟨_, _, _, e⟩
      · rw [e]; simp [zLf]; omega
      · rw [e]; simp [zLf]; omega
      · rw [e]; simp
      · rw [e] at h ⊢
        have := down_lv h
        omega
/-- a walk that asks what the leaf permits: its sort (0: none), the memory behind, the leaf -/
def walkS (S : Nat) (L : List (Nat × Nat)) (r a : Nat) (y : Wy) : Nat := if (lookN S L r a).so = 0 then (if pmAl (permP (lookN S L r a).lf.pt) y then 0 else 2) else (lookN S L r a).so
def walkL (S : Nat) (L : List (Nat × Nat)) (r a : Nat) (y : Wy) : List (Nat × Nat) := if walkS S L r a y = 0 then markL L (lookN S L r a).lf.at' (y.kd == 2) else L
def walkF (S : Nat) (L : List (Nat × Nat)) (r a : Nat) (y : Wy) : Lf := if walkS S L r a y = 0 then { (lookN S L r a).lf with pt := usedP (lookN S L r a).lf.pt (y.kd == 2) } else zLf
theorem walk_fault {S : Nat} {L : List (Nat × Nat)} {r a : Nat} {y : Wy} (h : (lookN S L r a).so ≠ 0) : walkS S L r a y = (lookN S L r a).so ∧ walkL S L r a y = L ∧ walkF S L r a y = zLf := by
  have e : walkS S L r a y = (lookN S L r a).so := by unfold walkS; rw [if_neg h]
  exact ⟨e, by unfold walkL; rw [e, if_neg h], by unfold walkF; rw [e, if_neg h]⟩
theorem walk_not {S : Nat} {L : List (Nat × Nat)} {r a : Nat} {y : Wy} (h : (lookN S L r a).so = 0) (h2 : pmAl (permP (lookN S L r a).lf.pt) y = false) : walkS S L r a y = 2 ∧ walkL S L r a y = L ∧ walkF S L r a y = zLf := by
  have e : walkS S L r a y = 2 := by unfold walkS; rw [if_pos h, h2]; rfl
  exact ⟨e, by unfold walkL; rw [e, if_neg (by decide)], by unfold walkF; rw [e, if_neg (by decide)]⟩
theorem walk_yes {S : Nat} {L : List (Nat × Nat)} {r a : Nat} {y : Wy} (h : (lookN S L r a).so = 0) (h2 : pmAl (permP (lookN S L r a).lf.pt) y = true) :
    walkS S L r a y = 0 ∧ walkL S L r a y = markL L (lookN S L r a).lf.at' (y.kd == 2) ∧ walkF S L r a y = { (lookN S L r a).lf with pt := usedP (lookN S L r a).lf.pt (y.kd == 2) } := by
  have e : walkS S L r a y = 0 := by unfold walkS; rw [if_pos h, h2]; rfl
  exact ⟨e, by unfold walkL; rw [e, if_pos rfl], by unfold walkF; rw [e, if_pos rfl]⟩
attribute [irreducible] walkS walkL walkF
attribute [irreducible] usedP globP placeN entN lookN markN markL stepW

end Go.Proofs.YticbjiddbjgikaaDoor
/- A word that is marked, bit by bit; a walk once more. -/
namespace Go.Proofs.YticbjiddbjgikaaDoor
set_option linter.unusedVariables false
set_option linter.unusedSimpArgs false
set_option maxRecDepth 10000

theorem mark_or {w : Nat} (h : w < 18446744073709551616) (d : Bool) : markN w d = w ||| (if d then 192 else 64) := by
  refine Nat.eq_of_testBit_eq fun i => ?_
  rw [Nat.testBit_or]
  by_cases hi : i < 8
  · have hm : (if d then 192 else 64 : Nat).testBit i = (decide (i = 6) || (d && decide (i = 7))) := by
      cases d
      · exact (by decide : ∀ j, j < 8 → Nat.testBit 64 j = (decide (j = 6) || (false && decide (j = 7)))) i hi
      · exact (by decide : ∀ j, j < 8 → Nat.testBit 192 j = (decide (j = 6) || (true && decide (j = 7)))) i hi
    rw [hm]
    unfold markN
    rw [put_tb hi]
    match i, hi with
    | 0, _ => simp [ptB, usedP, getP]
    | 1, _ => simp [ptB, usedP, getP]
    | 2, _ => simp [ptB, usedP, getP]
    | 3, _ => simp [ptB, usedP, getP]
    | 4, _ => simp [ptB, usedP, getP]
    | 5, _ => simp [ptB, usedP, getP]
    | 6, _ => simp [ptB, usedP, getP]
    | 7, _ => simp [ptB, usedP, getP]
  · have e : markN w d / 2 ^ 8 = w / 2 ^ 8 := by
      rw [mark_ar h]
      by_cases h1 : w / 64 % 2 = 1 <;> by_cases h2 : d = true ∧ ¬ w / 128 % 2 = 1
      · rw [if_pos h1, if_pos h2]; omega
      · rw [if_pos h1, if_neg h2]
        rfl
      · rw [if_neg h1, if_pos h2]; omega
      · rw [if_neg h1, if_neg h2]; omega
    have t : ∀ x : Nat, x.testBit i = (x / 2 ^ 8).testBit (i - 8) := fun x => by
      rw [Nat.testBit_div_two_pow]; congr 1; omega
    have z : (if d then 192 else 64 : Nat).testBit i = false := Nat.testBit_lt_two_pow (Nat.lt_of_lt_of_le (show (if d then 192 else 64 : Nat) < 2 ^ 8 by cases d <;> decide) (Nat.pow_le_pow_right (by decide) (by omega)))
    rw [t, e, ← t, z, Bool.or_false]
theorem or_and_left (w c : Nat) : (w ||| c) &&& w = w := Nat.eq_of_testBit_eq fun i => by
  rw [Nat.testBit_and, Nat.testBit_or]; cases w.testBit i <;> simp
theorem mark_192 {w : Nat} (h : w < 18446744073709551616) (d : Bool) : markN w d ||| 192 = w ||| 192 := by
  rw [mark_or h, Nat.or_assoc]; cases d <;> rfl
theorem mark_and {w : Nat} (h : w < 18446744073709551616) (d : Bool) : markN w d &&& w = w := by rw [mark_or h, or_and_left]
theorem mark_64 {w : Nat} (h : w < 18446744073709551616) (d : Bool) : markN w d &&& 64 = 64 := by
  rw [mark_or h, Nat.and_or_distrib_right]
  cases d
  · exact Nat.eq_of_testBit_eq fun i => by rw [Nat.testBit_or, Nat.testBit_and, Nat.testBit_and]; simp only [Bool.false_eq_true, if_false, Bool.and_self]; cases w.testBit i <;> simp
  · exact Nat.eq_of_testBit_eq fun i => by rw [Nat.testBit_or, Nat.testBit_and]; rw [show (if true = true then 192 else 64 : Nat) &&& 64 = 64 from rfl]; cases w.testBit i <;> simp
theorem mark_128t {w : Nat} (h : w < 18446744073709551616) : markN w true &&& 128 = 128 := by
  rw [mark_or h, Nat.and_or_distrib_right, show (if true = true then 192 else 64 : Nat) &&& 128 = 128 from rfl]
  exact Nat.eq_of_testBit_eq fun i => by rw [Nat.testBit_or, Nat.testBit_and]; cases w.testBit i <;> simp
theorem mark_128f {w : Nat} (h : w < 18446744073709551616) : markN w false &&& 128 = w &&& 128 := by
  rw [mark_or h, Nat.and_or_distrib_right, show (if false = true then 192 else 64 : Nat) &&& 128 = 0 from rfl, Nat.or_zero]
/-- a walk once more, where the way was permitted -/
theorem walk_allow {S : Nat} {L : List (Nat × Nat)} {r a : Nat} {y : Wy} (h : walkS S L r a y = 0) : (lookN S L r a).so = 0 ∧ pmAl (permP (lookN S L r a).lf.pt) y = true := by
  by_cases h1 : (lookN S L r a).so = 0
  · refine ⟨h1, ?_⟩
    cases h2 : pmAl (permP (lookN S L r a).lf.pt) y
    · rw [(walk_not h1 h2).1] at h; cases h
    · rfl
  · rw [(walk_fault h1).1] at h; exact absurd h h1
theorem upd_at (f : Lf) (p : Pt) : ({ f with pt := p } : Lf).at' = f.at' := rfl
theorem upd_lv (f : Lf) (p : Pt) : ({ f with pt := p } : Lf).lv = f.lv := rfl
theorem upd_pt (f : Lf) (p : Pt) : ({ f with pt := p } : Lf).pt = p := rfl
theorem walk_again {S : Nat} {L : List (Nat × Nat)} (hL : RL (S / 8) L) (h8 : S % 8 = 0) {r a : Nat} {y : Wy} (h : walkS S L r a y = 0) :
    walkS S (walkL S L r a y) r a y = 0 ∧ walkL S (walkL S L r a y) r a y = walkL S L r a y ∧ walkF S (walkL S L r a y) r a y = walkF S L r a y := by
  obtain ⟨h1, h2⟩ := walk_allow h
  obtain ⟨-, e2, e3⟩ := walk_yes h1 h2
  have hlf := (look_leaf h1).2
  have hm := look_mark hL (y.kd == 2) h1
  rw [e2, e3]
  generalize (lookN S L r a).lf = f at *
  obtain ⟨fl, fa, fp⟩ := f
  have hat : (lookN S (markL L fa (y.kd == 2)) r a).lf.at' = fa := congrArg (fun x : Wk => x.lf.at') hm
  have hpt : (lookN S (markL L fa (y.kd == 2)) r a).lf.pt = usedP fp (y.kd == 2) := congrArg (fun x : Wk => x.lf.pt) hm
  have hlv : (lookN S (markL L fa (y.kd == 2)) r a).lf.lv = fl := congrArg (fun x : Wk => x.lf.lv) hm
  have h1' : (lookN S (markL L fa (y.kd == 2)) r a).so = 0 := congrArg (fun x : Wk => x.so) hm
  have h2' : pmAl (permP (lookN S (markL L fa (y.kd == 2)) r a).lf.pt) y = true := by rw [hpt, perm_used]; exact h2
  obtain ⟨g1, g2, g3⟩ := walk_yes h1' h2'
  have hlt : fa < S := hlf.lt
  have hal : fa % 8 = 0 := hlf.al
  refine ⟨g1, ?_, ?_⟩
  · rw [hat] at g2
    exact g2.trans (mark_twice hL hal (by omega) _ _ (by simp))
  · dsimp only at g3
    rw [hat, hpt, hlv, used_used, Bool.or_self] at g3
    exact g3
/-- what holds behind a walk that ends at a leaf -/
structure Tells (S : Nat) (L : List (Nat × Nat)) (r a : Nat) (y : Wy) (K : List (Nat × Nat)) (F : Lf) (W N : Nat) : Prop where
  k : walkL S L r a y = K
  f : walkF S L r a y = F
  s2 : walkS S K r a y = 0
  k2 : walkL S K r a y = K
  f2 : walkF S K r a y = F
  len : K.length ≤ L.length + 1
  w : wordL L (F.at' / 8) = W
  n : wordL K (F.at' / 8) = N
  w64 : W < 18446744073709551616
  n64 : N < 18446744073709551616
  n192 : W ||| 192 = N ||| 192
  nw : N &&& W = W
  n64' : N &&& 64 = 64
  st : y.kd = 2 → N &&& 128 = 128
  ns : y.kd ≠ 2 → N &&& 128 = W &&& 128
  oth : ∀ p, p ≠ F.at' / 8 → wordL K p = wordL L p
  l0 : 0 ≤ F.lv
  l2 : F.lv ≤ 2
  al : F.at' % 8 = 0
  lt : F.at' < S
  pm : pmAl (permP F.pt) y = true
  va : vaB (a : Int) = true
theorem tells {S : Nat} {L : List (Nat × Nat)} (hL : RL (S / 8) L) (h8 : S % 8 = 0) {r a : Nat} {y : Wy} (h : walkS S L r a y = 0) : ∃ K F W N, Tells S L r a y K F W N := by
  obtain ⟨h1, h2⟩ := walk_allow h
  obtain ⟨g1, g2, g3⟩ := walk_again hL h8 h
  obtain ⟨-, e2, e3⟩ := walk_yes h1 h2
  obtain ⟨hva, hlf⟩ := look_leaf h1
  generalize (lookN S L r a).lf = f at *
  have hat : (walkF S L r a y).at' = f.at' := (congrArg Lf.at' e3).trans (upd_at _ _)
  have hlv : (walkF S L r a y).lv = f.lv := (congrArg Lf.lv e3).trans (upd_lv _ _)
  have hpt : (walkF S L r a y).pt = usedP f.pt (y.kd == 2) := (congrArg Lf.pt e3).trans (upd_pt _ _)
  have hw := wordL_lt hL (f.at' / 8)
  have hmw := mark_word hL hlf.al (y.kd == 2)
  have hn : wordL (walkL S L r a y) ((walkF S L r a y).at' / 8) = markN (wordL L ((walkF S L r a y).at' / 8)) (y.kd == 2) := by
    rw [hat, e2, hmw, if_pos rfl]
  rw [← hat] at hw
  refine ⟨_, _, _, _, rfl, rfl, g1, g2, g3, ?_, rfl, hn, hw, mark_lt hw _, (mark_192 hw _).symm, mark_and hw _, mark_64 hw _, fun e => ?_, fun e => ?_, fun p hp => ?_, ?_, ?_, ?_, ?_, ?_, hva⟩
  · rw [e2]; exact markL_len _ _ _
  · rw [show (y.kd == 2) = true by simp [e]]; exact mark_128t hw
  · rw [show (y.kd == 2) = false by simp [e]]; exact mark_128f hw
  · rw [e2, hmw, if_neg (by rw [← hat]; exact hp)]
  · rw [hlv]; exact hlf.l0
  · rw [hlv]; exact hlf.l2
  · rw [hat]; exact hlf.al
  · rw [hat]; exact hlf.lt
  · rw [hpt, perm_used]; exact h2
/-- two ways that a leaf permits: what they leave -/
structure Ways (S : Nat) (f : Lf) (d1 d2 : Bool) (K1 K2 : List (Nat × Nat)) (G1 G2 : Lf) (N1 N2 : Nat) : Prop where
  w1 : wordL K1 (G2.at' / 8) = N1
  w2 : wordL K2 (G2.at' / 8) = N2
  n1 : N1 < 18446744073709551616
  n2 : N2 < 18446744073709551616
  or : N1 ||| 128 = N2 ||| 128
  g : ({ G1 with pt := { G1.pt with d := G2.pt.d } } : Lf) = G2
  same : decide (K1 = K2) = ((d1 == d2) || f.pt.d)
  lt : G2.at' < S
end Go.Proofs.YticbjiddbjgikaaDoor
