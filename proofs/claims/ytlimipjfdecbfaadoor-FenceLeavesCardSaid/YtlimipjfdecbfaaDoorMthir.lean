/- Sets of the buffer as plain values: of the same page, what is found, put, and what follows. No program. -/
import Derived.Test.YtlimipjfdecbfaaDoorMtwel
import Derived.Test.YtlimipjfdecbfaaDoorMelev
import Derived.Test.YtlimipjfdecbfaaDoorSt
namespace Go.Proofs.YtlimipjfdecbfaaDoor
set_option linter.unusedVariables false
set_option linter.unusedSimpArgs false

def sameE (e f : En) : Bool := e.v && (f.v && ((e.l == f.l) && ((e.vp == f.vp) && (e.g || (f.g || (e.n == f.n))))))
def rightS (s : St) : Bool := decide (s.t < 8) && (mayE s.ws.a && (mayE s.ws.b && (mayE s.ws.c && mayE s.ws.d)))
/-- the least way of which it is so, or 0; and whether there is one -/
def fiW (p : En → Bool) (s : Ws) : Nat := if p s.a then 0 else if p s.b then 1 else if p s.c then 2 else if p s.d then 3 else 0
def fbW (p : En → Bool) (s : Ws) : Bool := p s.a || (p s.b || (p s.c || p s.d))
def hitE (n a l : Int) (e : En) : Bool := (e.l == l) && matE e n a
def emptyE (e : En) : Bool := !e.v
/-- behind the dropping of those of the same page, ahead of k -/
def dropK (e : En) (s : Ws) : Nat → Ws
  | 0 => s
  | k + 1 => if sameE e (s.at k) then (dropK e s k).put k e0 else dropK e s k
def cutW (e : En) (s : Ws) : Ws := dropK e s 4
/-- the way that is filled -/
def wayS (e : En) (v : Int) (s : St) : Nat := if 0 ≤ v ∧ v < 4 then v.toNat else if fbW emptyE (cutW e s.ws) then fiW emptyE (cutW e s.ws) else viN s.t
def putS (e : En) (v : Int) (s : St) : St := ⟨(cutW e s.ws).put (wayS e v s) e, toN s.t (wayS e v s)⟩
/-- no two ways are of the same page -/
def unlS (s : Ws) : Bool := !sameE s.b s.a && (!sameE s.c s.a && (!sameE s.c s.b && (!sameE s.d s.a && (!sameE s.d s.b && !sameE s.d s.c))))
def s0 : St := ⟨⟨e0, e0, e0, e0⟩, 0⟩

theorem fi_hit {p : En → Bool} {s : Ws} {k : Nat} (hk : k < 4) (h : ∀ j, j < k → p (s.at j) = false) (hp : p (s.at k) = true) : fiW p s = k ∧ fbW p s = true := by
  unfold fiW fbW
  rcases k_four hk with rfl | rfl | rfl | rfl
  · rw [at_0] at hp; simp [hp]
  · have h0 := h 0 (by decide)
    rw [at_0] at h0; rw [at_1] at hp; simp [hp, h0]
  · have h0 := h 0 (by decide)
    have h1 := h 1 (by decide)
    rw [at_0] at h0; rw [at_1] at h1; rw [at_2] at hp; simp [hp, h0, h1]
  · have h0 := h 0 (by decide)
    have h1 := h 1 (by decide)
    have h2 := h 2 (by decide)
    rw [at_0] at h0; rw [at_1] at h1; rw [at_2] at h2; rw [at_3] at hp; simp [hp, h0, h1, h2]
theorem fi_none {p : En → Bool} {s : Ws} (h : ∀ j, j < 4 → p (s.at j) = false) : fiW p s = 0 ∧ fbW p s = false := by
  have h0 := h 0 (by decide)
  have h1 := h 1 (by decide)
  have h2 := h 2 (by decide)
  have h3 := h 3 (by decide)
  rw [at_0] at h0; rw [at_1] at h1; rw [at_2] at h2; rw [at_3] at h3
  unfold fiW fbW
  simp [h0, h1, h2, h3]
theorem fi_is {p : En → Bool} {s : Ws} (h : fbW p s = true) : fiW p s < 4 ∧ p (s.at (fiW p s)) = true ∧ ∀ j, j < fiW p s → p (s.at j) = false := by
  unfold fbW at h
  unfold fiW
  cases ha : p s.a
  · cases hb : p s.b
    · cases hc : p s.c
      · cases hd : p s.d
        · rw [ha, hb, hc, hd] at h; cases h
        · simp only [Bool.false_eq_true, if_false, if_true]
          refine ⟨by decide, hd, fun j hj => ?_⟩
          rcases (by omega : j = 0 ∨ j = 1 ∨ j = 2) with rfl | rfl | rfl
          · exact ha
          · exact hb
          · exact hc
      · simp only [Bool.false_eq_true, if_false, if_true]
        refine ⟨by decide, hc, fun j hj => ?_⟩
        rcases (by omega : j = 0 ∨ j = 1) with rfl | rfl
        · exact ha
        · exact hb
    · simp only [Bool.false_eq_true, if_false, if_true]
      refine ⟨by decide, hb, fun j hj => ?_⟩
      obtain rfl : j = 0 := by omega
      exact ha
  · simp only [if_true]
    exact ⟨by decide, ha, fun j hj => absurd hj (by omega)⟩
theorem fi_not {p : En → Bool} {s : Ws} (h : fbW p s = false) : fiW p s = 0 ∧ ∀ j, j < 4 → p (s.at j) = false := by
  unfold fbW at h
  simp only [Bool.or_eq_false_iff] at h
  obtain ⟨ha, hb, hc, hd⟩ := h
  have key : ∀ j, j < 4 → p (s.at j) = false := fun j hj => by
    rcases k_four hj with rfl | rfl | rfl | rfl
    · exact ha
    · exact hb
    · exact hc
    · exact hd
  exact ⟨(fi_none key).1, key⟩
theorem fi_lt (p : En → Bool) (s : Ws) : fiW p s < 4 := by
  cases h : fbW p s
  · rw [(fi_not h).1]; decide
  · exact (fi_is h).1
theorem fi_le {p : En → Bool} {s : Ws} {k : Nat} (hk : k < 4) (hp : p (s.at k) = true) : fbW p s = true ∧ fiW p s ≤ k := by
  cases h : fbW p s
  · rw [(fi_not h).2 k hk] at hp; cases hp
  · refine ⟨rfl, ?_⟩
    rcases Nat.lt_or_ge k (fiW p s) with hlt | hge
    · rw [(fi_is h).2.2 k hlt] at hp; cases hp
    · exact hge

theorem right_t {s : St} (h : rightS s = true) : s.t < 8 := by
  unfold rightS at h
  simp only [Bool.and_eq_true, decide_eq_true_iff] at h
  exact h.1
theorem right_may {s : St} (h : rightS s = true) {k : Nat} (hk : k < 4) : mayE (s.ws.at k) = true := by
  unfold rightS at h
  simp only [Bool.and_eq_true, decide_eq_true_iff] at h
  obtain ⟨_, ha, hb, hc, hd⟩ := h
  rcases k_four hk with rfl | rfl | rfl | rfl
  · exact ha
  · exact hb
  · exact hc
  · exact hd
theorem right_of {s : St} (ht : s.t < 8) (h : ∀ k, k < 4 → mayE (s.ws.at k) = true) : rightS s = true := by
  unfold rightS
  simp only [Bool.and_eq_true, decide_eq_true_iff]
  exact ⟨ht, h 0 (by decide), h 1 (by decide), h 2 (by decide), h 3 (by decide)⟩
/-- Right, by the least way that may not be -/
theorem right_fb (s : St) : (decide ((s.t : Int) < 8) && !fbW (fun e => !mayE e) s.ws) = rightS s := by
  unfold rightS fbW
  rw [show decide ((s.t : Int) < 8) = decide (s.t < 8) from by rw [Bool.eq_iff_iff, decide_eq_true_iff, decide_eq_true_iff]; omega]
  exact (by decide : ∀ a b c d x : Bool, (x && !(!a || (!b || (!c || !d)))) = (x && (a && (b && (c && d))))) _ _ _ _ _
theorem right_yes {s : St} (h : ∀ j, j < 4 → mayE (s.ws.at j) = true) : decide ((s.t : Int) < 8) = rightS s := by
  rw [← right_fb, (fi_none (p := fun e => !mayE e) fun j hj => by simp only [h j hj]; rfl).2]; simp
theorem right_no {s : St} {k : Nat} (hk : k < 4) (h : mayE (s.ws.at k) = false) : rightS s = false := by
  cases hr : rightS s
  · rfl
  · rw [right_may hr hk] at h; cases h

theorem e0_v : e0.v = false := by unfold e0; rfl
theorem same_e0 (e : En) : sameE e e0 = false := by unfold sameE; rw [e0_v]; simp
theorem same_comm (e f : En) : sameE e f = sameE f e := by
  unfold sameE
  cases e.v <;> cases f.v <;> simp only [Bool.true_and, Bool.false_and]
  rw [Bool.eq_iff_iff]
  simp only [Bool.and_eq_true, Bool.or_eq_true, beq_iff_eq]
  constructor <;> rintro ⟨h1, h2, h3⟩ <;> refine ⟨h1.symm, h2.symm, ?_⟩
  · rcases h3 with h | h | h
    · exact .inr (.inl h)
    · exact .inl h
    · exact .inr (.inr h.symm)
  · rcases h3 with h | h | h
    · exact .inr (.inl h)
    · exact .inl h
    · exact .inr (.inr h.symm)
theorem same_v {e f : En} (h : sameE e f = true) : e.v = true ∧ f.v = true := by
  unfold sameE at h
  simp only [Bool.and_eq_true] at h
  exact ⟨h.1, h.2.1⟩
theorem drop_none (e : En) (s : Ws) : dropK e s 0 = s := rfl
theorem drop_next (e : En) (s : Ws) (k : Nat) : (if sameE e (s.at k) then (dropK e s k).put k e0 else dropK e s k) = dropK e s (k + 1) := rfl
theorem drop_yes {e : En} {s : Ws} {k : Nat} (h : sameE e (s.at k) = true) : (dropK e s k).put k e0 = dropK e s (k + 1) := by rw [← drop_next, if_pos h]
theorem drop_no {e : En} {s : Ws} {k : Nat} (h : sameE e (s.at k) = false) : dropK e s k = dropK e s (k + 1) := by rw [← drop_next, h]; rfl
theorem drop_cut (e : En) (s : Ws) : dropK e s 4 = cutW e s := rfl
theorem drop_at (e : En) (s : Ws) : ∀ k, k ≤ 4 → ∀ j, j < 4 → (dropK e s k).at j = if j < k then (if sameE e (s.at j) then e0 else s.at j) else s.at j
  | 0, _, j, _ => by rw [drop_none, if_neg (by omega)]
  | k + 1, hk, j, hj => by
    have ih := drop_at e s k (by omega) j hj
    cases h : sameE e (s.at k)
    · rw [← drop_no h, ih]
      by_cases hl : j < k
      · rw [if_pos hl, if_pos (show j < k + 1 by omega)]
      · rw [if_neg hl]
        by_cases hjk : j = k
        · subst hjk
          rw [if_pos (show j < j + 1 by omega), h]; rfl
        · rw [if_neg (show ¬ j < k + 1 by omega)]
    · rw [← drop_yes h, at_put (show k < 4 by omega) hj, ih]
      by_cases hjk : j = k
      · subst hjk
        rw [if_pos rfl, if_pos (show j < j + 1 by omega), h]; rfl
      · rw [if_neg hjk]
        by_cases hl : j < k
        · rw [if_pos hl, if_pos (show j < k + 1 by omega)]
        · rw [if_neg hl, if_neg (show ¬ j < k + 1 by omega)]
theorem cut_at (e : En) (s : Ws) {j : Nat} (hj : j < 4) : (cutW e s).at j = if sameE e (s.at j) then e0 else s.at j := by
  rw [← drop_cut, drop_at e s 4 (by omega) j hj, if_pos hj]
theorem way_lt {e : En} {v : Int} {s : St} (h : s.t < 8) : wayS e v s < 4 := by
  unfold wayS
  split
  · omega
  split
  · exact fi_lt _ _
  · exact vi_lt h
theorem way_vic {e : En} {v : Int} {s : St} (h0 : 0 ≤ v) (h1 : v < 4) : (wayS e v s : Int) = v := by
  unfold wayS; rw [if_pos ⟨h0, h1⟩]; omega
theorem way_fst {e : En} {v : Int} {s : St} (h : ¬ (0 ≤ v ∧ v < 4)) (hb : fbW emptyE (cutW e s.ws) = true) : wayS e v s = fiW emptyE (cutW e s.ws) := by
  unfold wayS; rw [if_neg h, if_pos hb]
theorem way_old {e : En} {v : Int} {s : St} (h : ¬ (0 ≤ v ∧ v < 4)) (hb : fbW emptyE (cutW e s.ws) = false) : wayS e v s = viN s.t := by
  unfold wayS; rw [if_neg h, if_neg (by simp [hb])]
theorem putS_ws (e : En) (v : Int) (s : St) : (putS e v s).ws = (cutW e s.ws).put (wayS e v s) e := rfl
theorem putS_t (e : En) (v : Int) (s : St) : (putS e v s).t = toN s.t (wayS e v s) := rfl
theorem putS_eq (e : En) (v : Int) (s : St) : putS e v s = ⟨(cutW e s.ws).put (wayS e v s) e, toN s.t (wayS e v s)⟩ := rfl
theorem putS_at {e : En} {v : Int} {s : St} (h : s.t < 8) {j : Nat} (hj : j < 4) : (putS e v s).ws.at j = if j = wayS e v s then e else if sameE e (s.ws.at j) then e0 else s.ws.at j := by
  rw [putS_ws, at_put (way_lt h) hj, cut_at e s.ws hj]

theorem may_e0 : mayE e0 = true := by unfold mayE; rw [if_neg (by rw [e0_v]; decide)]; exact decide_eq_true rfl
theorem right_put {s : St} (h : rightS s = true) {e : En} (he : mayE e = true) {k : Nat} (hk : k < 4) : rightS (s.put k e) = true := by
  refine right_of (show s.t < 8 from right_t h) fun j hj => ?_
  show mayE ((s.ws.put k e).at j) = true
  rw [at_put hk hj]
  split
  · exact he
  · exact right_may h hj
theorem right_touch {s : St} (h : rightS s = true) {w : Nat} : rightS ⟨s.ws, toN s.t w⟩ = true :=
  right_of (show toN s.t w < 8 from to_lt (right_t h) w) fun j hj => right_may (s := s) h hj
theorem right_cut {s : St} (h : rightS s = true) (e : En) : rightS ⟨cutW e s.ws, s.t⟩ = true := by
  refine right_of (show s.t < 8 from right_t h) fun j hj => ?_
  show mayE ((cutW e s.ws).at j) = true
  rw [cut_at e s.ws hj]
  split
  · exact may_e0
  · exact right_may h hj
theorem right_putS {s : St} (h : rightS s = true) {e : En} (he : mayE e = true) (v : Int) : rightS (putS e v s) = true := by
  refine right_of (show toN s.t (wayS e v s) < 8 from to_lt (right_t h) _) fun j hj => ?_
  rw [putS_at (right_t h) hj]
  split
  · exact he
  split
  · exact may_e0
  · exact right_may h hj
theorem right_s0 : rightS s0 = true := right_of (by decide) fun k hk => by
  rcases k_four hk with rfl | rfl | rfl | rfl <;> exact may_e0

theorem unl_iff (s : Ws) : unlS s = true ↔ ∀ w v, w < 4 → v < w → sameE (s.at w) (s.at v) = false := by
  unfold unlS
  simp only [Bool.and_eq_true, Bool.not_eq_true']
  constructor
  · rintro ⟨h1, h2, h3, h4, h5, h6⟩ w v hw hv
    rcases k_four hw with rfl | rfl | rfl | rfl
    · omega
    · obtain rfl : v = 0 := by omega
      exact h1
    · rcases (by omega : v = 0 ∨ v = 1) with rfl | rfl
      · exact h2
      · exact h3
    · rcases (by omega : v = 0 ∨ v = 1 ∨ v = 2) with rfl | rfl | rfl
      · exact h4
      · exact h5
      · exact h6
  · intro h
    exact ⟨h 1 0 (by decide) (by decide), h 2 0 (by decide) (by decide), h 2 1 (by decide) (by decide), h 3 0 (by decide) (by decide), h 3 1 (by decide) (by decide), h 3 2 (by decide) (by decide)⟩
theorem unl_of {s : Ws} (h : ∀ w v, w < 4 → v < w → sameE (s.at w) (s.at v) = false) : unlS s = true := (unl_iff s).2 h
theorem unl_no {s : Ws} {w v : Nat} (hw : w < 4) (hv : v < w) (h : sameE (s.at w) (s.at v) = true) : unlS s = false := by
  cases hu : unlS s
  · rfl
  · rw [(unl_iff s).1 hu w v hw hv] at h; cases h
/-- P13.3: no two ways are of the same page, if none were -/
theorem unl_put {s : St} (h : s.t < 8) (hu : unlS s.ws = true) (e : En) (v : Int) : unlS (putS e v s).ws = true := by
  have key : ∀ j, j < 4 → j ≠ wayS e v s → sameE e ((putS e v s).ws.at j) = false := fun j hj hn => by
    rw [putS_at h hj, if_neg hn]
    cases hs : sameE e (s.ws.at j)
    · simpa using hs
    · simp only [if_true]; exact same_e0 e
  refine unl_of fun w u hw hu' => ?_
  by_cases h1 : w = wayS e v s
  · have := key u (by omega) (by omega)
    rw [putS_at h hw, if_pos h1]
    exact this
  · by_cases h2 : u = wayS e v s
    · have := key w hw h1
      rw [same_comm, putS_at h (j := u) (by omega), if_pos h2]
      exact this
    · rw [putS_at h hw, if_neg h1, putS_at h (j := u) (by omega), if_neg h2]
      split
      · rw [same_comm]; exact same_e0 _
      split
      · exact same_e0 _
      · exact (unl_iff s.ws).1 hu w u hw hu'

/-- what is put is found -/
theorem hit_own {e : En} (he : mayE e = true) (hv : e.v = true) : hitE e.n (ofI e.vp) e.l e = true := by
  unfold hitE matE
  rw [cov_own he hv]
  simp
theorem put_found {s : St} (h : s.t < 8) {e : En} (he : mayE e = true) (hv : e.v = true) (v : Int) : fbW (hitE e.n (ofI e.vp) e.l) (putS e v s).ws = true ∧ fiW (hitE e.n (ofI e.vp) e.l) (putS e v s).ws ≤ wayS e v s := by
  refine fi_le (way_lt h) ?_
  rw [putS_at h (way_lt h), if_pos rfl]
  exact hit_own he hv
/-- what SetKeeps asks -/
structure Kept (e : En) (s x : St) (i : Nat) (v : Int) : Prop where
  lt : i < 4
  own : x.ws.at i = e
  other : ∀ w, w < 4 → w ≠ i → x.ws.at w = if sameE e (s.ws.at w) then e0 else s.ws.at w
  right : rightS x = true
  unl : unlS s.ws = true → unlS x.ws = true
  vic : 0 ≤ v → v ≤ 3 → (i : Int) = v
  empty : ¬ (0 ≤ v ∧ v ≤ 3) → ∀ w, w < 4 → (!(s.ws.at w).v || sameE e (s.ws.at w)) = true → (!(s.ws.at i).v || sameE e (s.ws.at i)) = true
  fb : fbW (hitE e.n (ofI e.vp) e.l) x.ws = true
  fi : fiW (hitE e.n (ofI e.vp) e.l) x.ws ≤ i
  vi : viN x.t / 2 ≠ i / 2
theorem empty_cut (e : En) (s : Ws) {j : Nat} (hj : j < 4) : emptyE ((cutW e s).at j) = (!(s.at j).v || sameE e (s.at j)) := by
  unfold emptyE
  rw [cut_at e s hj]
  cases h : sameE e (s.at j)
  · simp
  · simp only [if_true, e0_v]; simp
theorem kept {e : En} {s : St} (h : rightS s = true) (he : mayE e = true) (hv : e.v = true) (v : Int) : Kept e s (putS e v s) (wayS e v s) v where
  lt := way_lt (right_t h)
  own := by rw [putS_at (right_t h) (way_lt (right_t h)), if_pos rfl]
  other := fun w hw hn => by rw [putS_at (right_t h) hw, if_neg hn]
  right := right_putS h he v
  unl := fun hu => unl_put (right_t h) hu e v
  vic := fun h0 h1 => way_vic h0 (by omega)
  empty := fun hn w hw hb => by
    have hn' : ¬ (0 ≤ v ∧ v < 4) := fun hh => hn ⟨hh.1, by omega⟩
    rw [← empty_cut e s.ws hw] at hb
    have := fi_le hw hb
    rw [← empty_cut e s.ws (way_lt (right_t h)), way_fst hn' this.1]
    exact (fi_is this.1).2.1
  fb := (put_found (right_t h) he hv v).1
  fi := (put_found (right_t h) he hv v).2
  vi := by
    rw [putS_t, vi_to (right_t h) (way_lt (right_t h))]
    have := way_lt (e := e) (v := v) (right_t h)
    omega
attribute [irreducible] sameE rightS fiW fbW hitE emptyE dropK cutW wayS putS unlS
end Go.Proofs.YtlimipjfdecbfaaDoor
