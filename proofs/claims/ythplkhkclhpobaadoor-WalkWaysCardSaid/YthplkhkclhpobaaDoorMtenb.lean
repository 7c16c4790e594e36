/- A word that is marked, bit by bit; a walk once more. -/
import Derived.Test.YthplkhkclhpobaaDoorMten
namespace Go.Proofs.YthplkhkclhpobaaDoor
set_option linter.unusedVariables false
set_option linter.unusedSimpArgs false
set_option maxRecDepth 10000

theorem mark_or {w : Nat} (h : w < 18446744073709551616) (d : Bool) : markN w d = w ||| (if d then 192 else 64) := by
  refine Nat.eq_of_testBit_eq fun i => ?_
  rw [Nat.testBit_or]
  by_cases hi : i < 8
  · have hm : (if d then 192 else 64 : Nat).testBit i = (decide (i = 6) || (d && decide (i = 7))) := by
      cases d
      · exact (by decide : ∀ j, j < 8 → Nat.testBit 64 j = (decide (j = 6) || (false && decide (j = 7)))) i hi
      · exact (by decide : ∀ j, j < 8 → Nat.testBit 192 j = (decide (j = 6) || (true && decide (j = 7)))) i hi
    rw [hm]
    unfold markN
    rw [put_tb hi]
    match i, hi with
    | 0, _ => simp [ptB, usedP, getP]
    | 1, _ => simp [ptB, usedP, getP]
    | 2, _ => simp [ptB, usedP, getP]
    | 3, _ => simp [ptB, usedP, getP]
    | 4, _ => simp [ptB, usedP, getP]
    | 5, _ => simp [ptB, usedP, getP]
    | 6, _ => simp [ptB, usedP, getP]
    | 7, _ => simp [ptB, usedP, getP]
  · have e : markN w d / 2 ^ 8 = w / 2 ^ 8 := by
      rw [mark_ar h]
      by_cases h1 : w / 64 % 2 = 1 <;> by_cases h2 : d = true ∧ ¬ w / 128 % 2 = 1
      · rw [if_pos h1, if_pos h2]; omega
      · rw [if_pos h1, if_neg h2]
        rfl
      · rw [if_neg h1, if_pos h2]; omega
      · rw [if_neg h1, if_neg h2]; omega
    have t : ∀ x : Nat, x.testBit i = (x / 2 ^ 8).testBit (i - 8) := fun x => by
      rw [Nat.testBit_div_two_pow]; congr 1; omega
    have z : (if d then 192 else 64 : Nat).testBit i = false := Nat.testBit_lt_two_pow (Nat.lt_of_lt_of_le (show (if d then 192 else 64 : Nat) < 2 ^ 8 by cases d <;> decide) (Nat.pow_le_pow_right (by decide) (by omega)))
    rw [t, e, ← t, z, Bool.or_false]
theorem or_and_left (w c : Nat) : (w ||| c) &&& w = w := Nat.eq_of_testBit_eq fun i => by
  rw [Nat.testBit_and, Nat.testBit_or]; cases w.testBit i <;> simp
theorem or_and_right (w c : Nat) : (w ||| c) &&& c = c := Nat.eq_of_testBit_eq fun i => by
  rw [Nat.testBit_and, Nat.testBit_or]; cases w.testBit i <;> simp
theorem mark_192 {w : Nat} (h : w < 18446744073709551616) (d : Bool) : markN w d ||| 192 = w ||| 192 := by
  rw [mark_or h, Nat.or_assoc]; cases d <;> rfl
theorem mark_and {w : Nat} (h : w < 18446744073709551616) (d : Bool) : markN w d &&& w = w := by rw [mark_or h, or_and_left]
theorem mark_64 {w : Nat} (h : w < 18446744073709551616) (d : Bool) : markN w d &&& 64 = 64 := by
  rw [mark_or h, Nat.and_or_distrib_right]
  cases d
  · exact Nat.eq_of_testBit_eq fun i => by rw [Nat.testBit_or, Nat.testBit_and, Nat.testBit_and]; simp only [Bool.false_eq_true, if_false, Bool.and_self]; cases w.testBit i <;> simp
  · exact Nat.eq_of_testBit_eq fun i => by rw [Nat.testBit_or, Nat.testBit_and]; rw [show (if true = true then 192 else 64 : Nat) &&& 64 = 64 from rfl]; cases w.testBit i <;> simp
theorem mark_128t {w : Nat} (h : w < 18446744073709551616) : markN w true &&& 128 = 128 := by
  rw [mark_or h, Nat.and_or_distrib_right, show (if true = true then 192 else 64 : Nat) &&& 128 = 128 from rfl]
  exact Nat.eq_of_testBit_eq fun i => by rw [Nat.testBit_or, Nat.testBit_and]; cases w.testBit i <;> simp
theorem mark_128f {w : Nat} (h : w < 18446744073709551616) : markN w false &&& 128 = w &&& 128 := by
  rw [mark_or h, Nat.and_or_distrib_right, show (if false = true then 192 else 64 : Nat) &&& 128 = 0 from rfl, Nat.or_zero]
theorem mark_or128 {w : Nat} (h : w < 18446744073709551616) (d : Bool) : markN w d ||| 128 = w ||| 192 := by
  rw [mark_or h, Nat.or_assoc]; cases d <;> rfl
/-- a walk once more, where the way was permitted -/
theorem walk_allow {S : Nat} {L : List (Nat × Nat)} {r a : Nat} {y : Wy} (h : walkS S L r a y = 0) : (lookN S L r a).so = 0 ∧ pmAl (permP (lookN S L r a).lf.pt) y = true := by
  by_cases h1 : (lookN S L r a).so = 0
  · refine ⟨h1, ?_⟩
    cases h2 : pmAl (permP (lookN S L r a).lf.pt) y
    · rw [(walk_not h1 h2).1] at h; cases h
    · rfl
  · rw [(walk_fault h1).1] at h; exact absurd h h1
theorem upd_at (f : Lf) (p : Pt) : ({ f with pt := p } : Lf).at' = f.at' := rfl
theorem upd_lv (f : Lf) (p : Pt) : ({ f with pt := p } : Lf).lv = f.lv := rfl
theorem upd_pt (f : Lf) (p : Pt) : ({ f with pt := p } : Lf).pt = p := rfl
theorem walk_again {S : Nat} {L : List (Nat × Nat)} (hL : RL (S / 8) L) (h8 : S % 8 = 0) {r a : Nat} {y : Wy} (h : walkS S L r a y = 0) :
    walkS S (walkL S L r a y) r a y = 0 ∧ walkL S (walkL S L r a y) r a y = walkL S L r a y ∧ walkF S (walkL S L r a y) r a y = walkF S L r a y := by
  obtain ⟨h1, h2⟩ := walk_allow h
  obtain ⟨-, e2, e3⟩ := walk_yes h1 h2
  have hlf := (look_leaf h1).2
  have hm := look_mark hL (y.kd == 2) h1
  rw [e2, e3]
  generalize (lookN S L r a).lf = f at *
  obtain ⟨fl, fa, fp⟩ := f
  have hat : (lookN S (markL L fa (y.kd == 2)) r a).lf.at' = fa := congrArg (fun x : Wk => x.lf.at') hm
  have hpt : (lookN S (markL L fa (y.kd == 2)) r a).lf.pt = usedP fp (y.kd == 2) := congrArg (fun x : Wk => x.lf.pt) hm
  have hlv : (lookN S (markL L fa (y.kd == 2)) r a).lf.lv = fl := congrArg (fun x : Wk => x.lf.lv) hm
  have h1' : (lookN S (markL L fa (y.kd == 2)) r a).so = 0 := congrArg (fun x : Wk => x.so) hm
  have h2' : pmAl (permP (lookN S (markL L fa (y.kd == 2)) r a).lf.pt) y = true := by rw [hpt, perm_used]; exact h2
  obtain ⟨g1, g2, g3⟩ := walk_yes h1' h2'
  have hlt : fa < S := hlf.lt
  have hal : fa % 8 = 0 := hlf.al
  refine ⟨g1, ?_, ?_⟩
  · rw [hat] at g2
    exact g2.trans (mark_twice hL hal (by omega) _ _ (by simp))
  · dsimp only at g3
    rw [hat, hpt, hlv, used_used, Bool.or_self] at g3
    exact g3
theorem mark_two {m : Nat} {L : List (Nat × Nat)} (hL : RL m L) {k : Nat} (h : k % 8 = 0) (hk : k / 8 < m) : decide (markL L k true = markL L k false) = (entN L k).d := by
  have hw := wordL_lt hL (k / 8)
  cases hd : (entN L k).d
  · refine decide_eq_false fun e => ?_
    have e1 := congrArg (fun K => entN K k) e
    simp only [ent_mark hL h, if_true] at e1
    have e2 := congrArg Pt.d e1
    simp only [usedP, hd] at e2
    cases e2
  · refine decide_eq_true ?_
    have e : markN (wordL L (k / 8)) true = markN (wordL L (k / 8)) false := by
      unfold markN
      have : usedP (getP (wordL L (k / 8))) true = usedP (getP (wordL L (k / 8))) false := by
        unfold entN at hd; unfold usedP; rw [hd]; rfl
      rw [this]
    unfold markL; rw [e]
/-- what holds behind a walk that ends at a leaf -/
structure Tells (S : Nat) (L : List (Nat × Nat)) (r a : Nat) (y : Wy) (K : List (Nat × Nat)) (F : Lf) (W N : Nat) : Prop where
  k : walkL S L r a y = K
  f : walkF S L r a y = F
  s2 : walkS S K r a y = 0
  k2 : walkL S K r a y = K
  f2 : walkF S K r a y = F
  len : K.length ≤ L.length + 1
  w : wordL L (F.at' / 8) = W
  n : wordL K (F.at' / 8) = N
  w64 : W < 18446744073709551616
  n64 : N < 18446744073709551616
  n192 : W ||| 192 = N ||| 192
  nw : N &&& W = W
  n64' : N &&& 64 = 64
  st : y.kd = 2 → N &&& 128 = 128
  ns : y.kd ≠ 2 → N &&& 128 = W &&& 128
  oth : ∀ p, p ≠ F.at' / 8 → wordL K p = wordL L p
  l0 : 0 ≤ F.lv
  l2 : F.lv ≤ 2
  al : F.at' % 8 = 0
  lt : F.at' < S
  pm : pmAl (permP F.pt) y = true
  va : vaB (a : Int) = true
theorem tells {S : Nat} {L : List (Nat × Nat)} (hL : RL (S / 8) L) (h8 : S % 8 = 0) {r a : Nat} {y : Wy} (h : walkS S L r a y = 0) : ∃ K F W N, Tells S L r a y K F W N := by
  obtain ⟨h1, h2⟩ := walk_allow h
  obtain ⟨g1, g2, g3⟩ := walk_again hL h8 h
  obtain ⟨-, e2, e3⟩ := walk_yes h1 h2
  obtain ⟨hva, hlf⟩ := look_leaf h1
  generalize (lookN S L r a).lf = f at *
  have hat : (walkF S L r a y).at' = f.at' := (congrArg Lf.at' e3).trans (upd_at _ _)
  have hlv : (walkF S L r a y).lv = f.lv := (congrArg Lf.lv e3).trans (upd_lv _ _)
  have hpt : (walkF S L r a y).pt = usedP f.pt (y.kd == 2) := (congrArg Lf.pt e3).trans (upd_pt _ _)
  have hw := wordL_lt hL (f.at' / 8)
  have hmw := mark_word hL hlf.al (y.kd == 2)
  have hn : wordL (walkL S L r a y) ((walkF S L r a y).at' / 8) = markN (wordL L ((walkF S L r a y).at' / 8)) (y.kd == 2) := by
    rw [hat, e2, hmw, if_pos rfl]
  rw [← hat] at hw
  refine ⟨_, _, _, _, rfl, rfl, g1, g2, g3, ?_, rfl, hn, hw, mark_lt hw _, (mark_192 hw _).symm, mark_and hw _, mark_64 hw _, fun e => ?_, fun e => ?_, fun p hp => ?_, ?_, ?_, ?_, ?_, ?_, hva⟩
  · rw [e2]; exact markL_len _ _ _
  · rw [show (y.kd == 2) = true by simp [e]]; exact mark_128t hw
  · rw [show (y.kd == 2) = false by simp [e]]; exact mark_128f hw
  · rw [e2, hmw, if_neg (by rw [← hat]; exact hp)]
  · rw [hlv]; exact hlf.l0
  · rw [hlv]; exact hlf.l2
  · rw [hat]; exact hlf.al
  · rw [hat]; exact hlf.lt
  · rw [hpt, perm_used]; exact h2
/-- two ways that a leaf permits: what they leave -/
structure Ways (S : Nat) (f : Lf) (d1 d2 : Bool) (K1 K2 : List (Nat × Nat)) (G1 G2 : Lf) (N1 N2 : Nat) : Prop where
  w1 : wordL K1 (G2.at' / 8) = N1
  w2 : wordL K2 (G2.at' / 8) = N2
  n1 : N1 < 18446744073709551616
  n2 : N2 < 18446744073709551616
  or : N1 ||| 128 = N2 ||| 128
  g : ({ G1 with pt := { G1.pt with d := G2.pt.d } } : Lf) = G2
  same : decide (K1 = K2) = ((d1 == d2) || f.pt.d)
  lt : G2.at' < S
theorem ways_ok {S : Nat} {L : List (Nat × Nat)} (hL : RL (S / 8) L) (h8 : S % 8 = 0) {f : Lf} (hlf : LeafOf S L f) (d1 d2 : Bool) {K1 K2 : List (Nat × Nat)} {G1 G2 : Lf}
    (k1 : K1 = markL L f.at' d1) (k2 : K2 = markL L f.at' d2) (g1 : G1 = { f with pt := usedP f.pt d1 }) (g2 : G2 = { f with pt := usedP f.pt d2 }) : ∃ N1 N2, Ways S f d1 d2 K1 K2 G1 G2 N1 N2 := by
  subst k1 k2 g1 g2
  have hw := wordL_lt hL (f.at' / 8)
  have hlt := hlf.lt
  have hk : f.at' / 8 < S / 8 := by omega
  have m1 := mark_word hL hlf.al d1 (f.at' / 8)
  have m2 := mark_word hL hlf.al d2 (f.at' / 8)
  rw [if_pos rfl] at m1 m2
  have hd : f.pt.d = (entN L f.at').d := by rw [hlf.pt]; unfold globP; rfl
  refine ⟨_, _, m1, m2, mark_lt hw _, mark_lt hw _, by rw [mark_or128 hw, mark_or128 hw], by unfold usedP; rfl, ?_, hlt⟩
  have h2 := mark_two hL hlf.al hk
  rw [hd]
  cases d1 <;> cases d2
  · simp
  · rw [show ((false == true) = false) from rfl, Bool.false_or, ← h2]
    exact decide_eq_decide.2 ⟨Eq.symm, Eq.symm⟩
  · rw [show ((true == false) = false) from rfl, Bool.false_or, ← h2]
  · simp
end Go.Proofs.YthplkhkclhpobaaDoor
