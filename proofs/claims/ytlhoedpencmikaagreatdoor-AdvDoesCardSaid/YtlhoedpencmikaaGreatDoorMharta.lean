/- Layer 16, as plain values: a leaf marked anywhere and what other walks come to; a walk of an address that an entry covers. No program. -/
import Derived.Test.YtlhoedpencmikaaGreatDoorGten
import Derived.Test.YtlhoedpencmikaaGreatDoorGmtlb
import Derived.Test.YtlhoedpencmikaaGreatDoorGseven
import Derived.Test.YtlhoedpencmikaaGreatDoorLaw14x
namespace Go.Proofs.YtlhoedpencmikaaGreatDoor
set_option linter.unusedVariables false
set_option linter.unusedSimpArgs false

/-- what a walk comes to, where the leaf at a place was marked -/
def markW (k : Nat) (d : Bool) (w : Wk) : Wk := if w.so = 0 ∧ w.lf.at' = k then ⟨0, { w.lf with pt := usedP w.lf.pt d }⟩ else w
theorem markW_so (k : Nat) (d : Bool) (w : Wk) : (markW k d w).so = w.so := by
  unfold markW
  split
  · rename_i h; exact h.1.symm
  · rfl
theorem markW_no {k : Nat} {d : Bool} {w : Wk} (h : ¬ (w.so = 0 ∧ w.lf.at' = k)) : markW k d w = w := by unfold markW; rw [if_neg h]
theorem markW_lv (k : Nat) (d : Bool) (w : Wk) : (markW k d w).lf.lv = w.lf.lv := by
  unfold markW; split <;> rfl
theorem markW_at (k : Nat) (d : Bool) (w : Wk) : (markW k d w).lf.at' = w.lf.at' := by
  unfold markW; split <;> rfl
theorem markW_pt (k : Nat) (d : Bool) (w : Wk) : (markW k d w).lf.pt = w.lf.pt ∨ (markW k d w).lf.pt = usedP w.lf.pt d := by
  unfold markW; split
  · exact .inr rfl
  · exact .inl rfl
theorem step_marks {S m : Nat} {L : List (Nat × Nat)} (hL : RL m L) {k : Nat} (hk : k % 8 = 0) (hl : leafB (entN L k) = true) (d : Bool) {b : Nat} {n : Int} {t : Nat} {g : Bool} {X Y : Wk}
    (h : ¬ placeN t b n = k → X = markW k d Y) : stepW S (markL L k d) b n t g X = markW k d (stepW S L b n t g Y) := by
  have hp8 := place_8 t b n
  have he := ent_mark hL hk d (placeN t b n)
  unfold stepW
  by_cases hS : S ≤ placeN t b n
  · rw [if_pos hS, if_pos hS]; exact (markW_no (by simp)).symm
  rw [if_neg hS, if_neg hS]
  by_cases hp : placeN t b n = k
  · rw [hp] at he ⊢
    rw [if_pos rfl] at he
    rw [he, bad_used hl, leaf_used, hl]
    cases hb : badB (entN L k) n
    · simp only [Bool.false_eq_true, if_false, if_true]
      unfold markW
      rw [if_pos ⟨rfl, rfl⟩, show (usedP (entN L k) d).g = (entN L k).g by unfold usedP; rfl, glob_used]
    · simp only [if_true]; exact (markW_no (by simp)).symm
  · have hp' : ¬ placeN t b n / 8 = k / 8 := by omega
    rw [if_neg hp'] at he
    rw [he]
    cases hb : badB (entN L (placeN t b n)) n
    · simp only [Bool.false_eq_true, if_false]
      cases hf : leafB (entN L (placeN t b n))
      · simp only [Bool.false_eq_true, if_false]; exact h hp
      · simp only [if_true]; exact (markW_no (fun hq => hp hq.2)).symm
    · simp only [if_true]; exact (markW_no (by simp)).symm
theorem down_marks {S m : Nat} {L : List (Nat × Nat)} (hL : RL m L) {k : Nat} (hk : k % 8 = 0) (hl : leafB (entN L k) = true) (d : Bool) {b : Nat} : ∀ (n t : Nat) (g : Bool), downN S (markL L k d) b n t g = markW k d (downN S L b n t g)
  | 0, t, g => by
    rw [downN, downN]
    exact step_marks hL hk hl d fun _ => (markW_no (by simp)).symm
  | n + 1, t, g => by
    rw [downN, downN]
    refine step_marks hL hk hl d fun hp => ?_
    have he := ent_mark hL hk d (placeN t b ((n + 1 : Nat) : Int))
    have hp8 := place_8 t b ((n + 1 : Nat) : Int)
    rw [if_neg (by omega)] at he
    rw [he]
    exact down_marks hL hk hl d n _ _
theorem look_marks {S m : Nat} {L : List (Nat × Nat)} (hL : RL m L) {k : Nat} (hk : k % 8 = 0) (hl : leafB (entN L k) = true) (d : Bool) (r b : Nat) : lookN S (markL L k d) r b = markW k d (lookN S L r b) := by
  unfold lookN
  cases vaB (b : Int)
  · simp only [Bool.false_eq_true, if_false]; exact (markW_no (by simp)).symm
  · simp only [if_true]; exact down_marks hL hk hl d _ _ _

/-! an address that an entry covers: the indexes are those of the entry's first one -/
theorem idx_num {a l : Int} (a0 : 0 ≤ a) (l0 : 0 ≤ l) (l2 : l ≤ 2) : idxI a l = numI a / pagI l % 512 := by
  unfold idxI numI
  rcases level_lt l0 l2 with rfl | rfl | rfl
  · rw [siz0, pag0]; omega
  · rw [siz1, pag1]; omega
  · rw [siz2, pag2]; omega
theorem num_own {e : En} (k : MayV e) : numI (ofI e.vp) = e.vp := by
  rw [num_of]
  have := k.vp
  omega
theorem cov_num {e : En} {a : Int} (hm : mayE e = true) (h : covE e a = true) : (e.vp : Int) = numI a - numI a % pagI e.l := by
  have k := may_v hm (cov_valid h)
  unfold covE at h
  simp only [Bool.and_eq_true, beq_iff_eq] at h
  rw [h.2.2, nb_eq k.l0 k.l2]
theorem cov_va {e : En} {a : Int} (h : covE e a = true) : vaB a = true := by
  unfold covE at h
  simp only [Bool.and_eq_true] at h
  exact h.2.1
theorem cov_idx {e : En} {a : Int} (hm : mayE e = true) (h : covE e a = true) (a0 : 0 ≤ a) {l : Int} (h1 : e.l ≤ l) (h2 : l ≤ 2) : idxI a l = idxI (ofI e.vp) l := by
  have k := may_v hm (cov_valid h)
  have hn := cov_num hm h
  have hl0 := k.l0
  rw [idx_num a0 (by omega) h2, idx_num (of_lt _).1 (by omega) h2, num_own k]
  have hn0 := num_lt a
  generalize numI a = x at *
  generalize (e.vp : Int) = y at *
  rcases level_lt k.l0 k.l2 with e1 | e1 | e1 <;> rcases level_lt (show 0 ≤ l by omega) h2 with e2 | e2 | e2 <;> rw [e1] at hn h1 <;> subst e2 <;> simp only [pag0, pag1, pag2] at hn ⊢ <;> omega
/-- the number of an entry's first address -/
def fstN (e : En) : Nat := (ofI e.vp).toNat
theorem fst_eq (e : En) : ((fstN e : Nat) : Int) = ofI e.vp := by
  unfold fstN
  have := (of_lt (e.vp : Int)).1
  omega
theorem fst_lt (e : En) : fstN e < 18446744073709551616 := by
  have h1 := fst_eq e
  have := (of_lt (e.vp : Int)).2
  omega
theorem look_cov {S : Nat} {M : List (Nat × Nat)} {r a : Nat} {e : En} (hm : mayE e = true) (hc : covE e (a : Int) = true) (hs : (lookN S M r (fstN e)).so = 0) (hl : (lookN S M r (fstN e)).lf.lv = e.l) : lookN S M r a = lookN S M r (fstN e) := by
  refine look_near hs (cov_va hc) fun l h1 h2 => ?_
  rw [fst_eq]
  exact cov_idx hm hc (by omega) (by omega) h2
attribute [irreducible] fstN
end Go.Proofs.YtlhoedpencmikaaGreatDoor
/- Layer 16, as plain values: harts, whether the buffer tells no more than the tables, where an address leads, what comes of an access. No program. -/
namespace Go.Proofs.YtlhoedpencmikaaGreatDoor
set_option linter.unusedVariables false
set_option linter.unusedSimpArgs false

structure Hr where
  L : List St
  sp : Sp
  pr : Int
  su : Bool
  mx : Bool
  vi : Int
deriving DecidableEq
def rightH (h : Hr) : Bool := rightT h.L && (smB h.sp && (h.pr == 0 || h.pr == 1))
def wayH (h : Hr) (k : Nat) : Wy := ⟨(k : Int), h.pr, h.su, h.mx⟩
def bareH (h : Hr) : Hr := { h with L := [] }
/-! the buffer tells no more than the tables -/
structure AgP (S : Nat) (M : List (Nat × Nat)) (r : Nat) (e : En) : Prop where
  so : (lookN S M r (fstN e)).so = 0
  lv : (lookN S M r (fstN e)).lf.lv = e.l
  pp : (lookN S M r (fstN e)).lf.pt.pp = e.pp
  a : (lookN S M r (fstN e)).lf.pt.a = true
  d : e.d = true → (lookN S M r (fstN e)).lf.pt.d = true
  pm : pmLess (permP (lookN S M r (fstN e)).lf.pt) e.pm = false
def agB (S : Nat) (M : List (Nat × Nat)) (r : Nat) (e : En) : Bool :=
  decide ((lookN S M r (fstN e)).so = 0) && (decide ((lookN S M r (fstN e)).lf.lv = e.l) && (decide ((lookN S M r (fstN e)).lf.pt.pp = e.pp) && ((lookN S M r (fstN e)).lf.pt.a && ((!e.d || (lookN S M r (fstN e)).lf.pt.d) && !pmLess (permP (lookN S M r (fstN e)).lf.pt) e.pm))))
theorem ag_iff (S : Nat) (M : List (Nat × Nat)) (r : Nat) (e : En) : agB S M r e = true ↔ AgP S M r e := by
  unfold agB
  simp only [Bool.and_eq_true, decide_eq_true_iff, Bool.or_eq_true, Bool.not_eq_true']
  constructor
  · rintro ⟨h1, h2, h3, h4, h5, h6⟩
    refine ⟨h1, h2, h3, h4, fun hd => ?_, h6⟩
    rcases h5 with h5 | h5
    · rw [hd] at h5; cases h5
    · exact h5
  · intro h
    refine ⟨h.so, h.lv, h.pp, h.a, ?_, h.pm⟩
    cases hd : e.d
    · exact .inl rfl
    · exact .inr (h.d hd)
def mineE (n : Nat) (e : En) : Bool := e.g || (e.n == n)
def agH (S : Nat) (M : List (Nat × Nat)) (h : Hr) : Bool := (allT h.L).all fun e => !mineE h.sp.ai e || agB S M h.sp.pp e
theorem ag_at {S : Nat} {M : List (Nat × Nat)} {h : Hr} (ha : agH S M h = true) {e : En} (he : e ∈ allT h.L) (hm : mineE h.sp.ai e = true) : AgP S M h.sp.pp e := by
  unfold agH at ha
  rw [List.all_eq_true] at ha
  have := ha e he
  rw [hm, Bool.not_true, Bool.false_or] at this
  exact (ag_iff _ _ _ _).1 this
theorem ag_of {S : Nat} {M : List (Nat × Nat)} {h : Hr} (ha : ∀ e ∈ allT h.L, mineE h.sp.ai e = true → AgP S M h.sp.pp e) : agH S M h = true := by
  unfold agH
  rw [List.all_eq_true]
  intro e he
  cases hm : mineE h.sp.ai e
  · rfl
  · rw [(ag_iff _ _ _ _).2 (ha e he hm)]; rfl
theorem used_pp (p : Pt) (d : Bool) : (usedP p d).pp = p.pp := by unfold usedP; rfl
theorem used_a (p : Pt) (d : Bool) : (usedP p d).a = true := by unfold usedP; rfl
theorem used_d (p : Pt) (d : Bool) : (usedP p d).d = (p.d || d) := by unfold usedP; rfl
theorem ag_mark {S m : Nat} {M : List (Nat × Nat)} (hM : RL m M) {k : Nat} (hk : k % 8 = 0) (hl : leafB (entN M k) = true) (d : Bool) {r : Nat} {e : En} (h : AgP S M r e) : AgP S (markL M k d) r e := by
  have hq := look_marks (S := S) hM hk hl d r (fstN e)
  refine ⟨?_, ?_, ?_, ?_, fun hd => ?_, ?_⟩
  · rw [hq, markW_so]; exact h.so
  · rw [hq, markW_lv]; exact h.lv
  · rw [hq]; rcases markW_pt k d (lookN S M r (fstN e)) with e1 | e1 <;> rw [e1]
    · exact h.pp
    · rw [used_pp]; exact h.pp
  · rw [hq]; rcases markW_pt k d (lookN S M r (fstN e)) with e1 | e1 <;> rw [e1]
    · exact h.a
    · rw [used_a]
  · rw [hq]; rcases markW_pt k d (lookN S M r (fstN e)) with e1 | e1 <;> rw [e1]
    · exact h.d hd
    · rw [used_d, h.d hd]; rfl
  · rw [hq]; rcases markW_pt k d (lookN S M r (fstN e)) with e1 | e1 <;> rw [e1]
    · exact h.pm
    · rw [perm_used]; exact h.pm
/-! a leaf that is used already -/
theorem leaf_g {S : Nat} {M : List (Nat × Nat)} {f : Lf} (h : LeafOf S M f) : f.pt.a = (entN M f.at').a ∧ f.pt.d = (entN M f.at').d ∧ f.pt.pp = (entN M f.at').pp := by
  have := h.pt
  refine ⟨?_, ?_, ?_⟩ <;> (rw [this]; unfold globP; rfl)
theorem mark_used {S : Nat} {M : List (Nat × Nat)} (hM : RL (S / 8) M) (h8 : S % 8 = 0) {f : Lf} (hl : LeafOf S M f) {d : Bool} (ha : f.pt.a = true) (hd : d = true → f.pt.d = true) : markL M f.at' d = M := by
  obtain ⟨g1, g2, -⟩ := leaf_g hl
  rw [ha] at g1
  have hlt := hl.lt
  refine mark_same hM hl.al (by omega) ?_
  have hw := wordL_lt hM (f.at' / 8)
  have he : usedP (entN M f.at') d = entN M f.at' := by
    have hx : ((entN M f.at').d || d) = (entN M f.at').d := by
      cases d
      · simp
      · rw [← g2, hd rfl]; rfl
    unfold usedP
    rw [hx]
    generalize entN M f.at' = p at *
    obtain ⟨v, r, w, x, u, g, a, dd, rs, pp, hi⟩ := p
    simp only at g1
    subst g1
    rfl
  unfold markN
  have hg : getP (wordL M (f.at' / 8)) = entN M f.at' := by unfold entN; rfl
  rw [hg, he, ← hg, put_get hw]
/-- a leaf of a walk is one of which an entry may be made -/
theorem leaf_may {S : Nat} {M : List (Nat × Nat)} {f : Lf} (h : LeafOf S M f) : leafE f = true := by
  obtain ⟨-, -, g3⟩ := leaf_g h
  have hb := h.bad
  have hl := h.leaf
  have hp := ent_pp M f.at'
  have l0 := h.l0
  have l2 := h.l2
  unfold leafE
  rw [decide_eq_true_iff, g3]
  refine ⟨l0, l2, hp, ?_⟩
  unfold leafB at hl
  rw [Bool.and_eq_true] at hl
  unfold badB at hb
  rw [hl.2, if_pos rfl] at hb
  simp only [Bool.or_eq_false_iff, Bool.not_eq_false', decide_eq_true_iff] at hb
  have hal := hb.2
  unfold manyN at hal
  rcases level_lt l0 l2 with e | e | e <;> rw [e] at hal ⊢
  · rw [pag0]; omega
  · rw [pag1]; simp at hal; omega
  · rw [pag2]; simp at hal; omega
/-! where an address leads -/
def phyN (f : Lf) (a : Nat) : Nat := ((f.pt.pp : Int) * 4096 + offI (a : Int) f.lv).toNat
def hitH (h : Hr) (k a : Nat) : Bool := okT (h.sp.ai : Int) (a : Int) h.L && (pmAl (enT (h.sp.ai : Int) (a : Int) h.L).pm (wayH h k) && (!decide (k = 2) || (enT (h.sp.ai : Int) (a : Int) h.L).d))
def soH (S : Nat) (M : List (Nat × Nat)) (h : Hr) (k a : Nat) : Nat := if h.sp.md = 8 then (if vaB (a : Int) then (if hitH h k a then 0 else walkS S M h.sp.pp a (wayH h k)) else 2) else 0
def atH (S : Nat) (M : List (Nat × Nat)) (h : Hr) (k a : Nat) : Nat := if h.sp.md = 8 then (if hitH h k a then (phyE (enT (h.sp.ai : Int) (a : Int) h.L) (a : Int)).toNat else phyN (walkF S M h.sp.pp a (wayH h k)) a) else a
def mH (S : Nat) (M : List (Nat × Nat)) (h : Hr) (k a : Nat) : List (Nat × Nat) := if h.sp.md = 8 then (if hitH h k a then M else walkL S M h.sp.pp a (wayH h k)) else M
def hH (S : Nat) (M : List (Nat × Nat)) (h : Hr) (k a : Nat) : Hr :=
  if h.sp.md = 8 then (if hitH h k a then { h with L := useT h.L (seT (h.sp.ai : Int) (a : Int) h.L) (wyT (h.sp.ai : Int) (a : Int) h.L) } else { h with L := putT (ofE (walkF S M h.sp.pp a (wayH h k)) a h.sp.ai) h.vi h.L, vi := -1 }) else h
/-! what comes of an access: the hart, the memory, the value and the fault -/
structure Rs where
  v : Nat
  f : Ft
deriving DecidableEq
def stopH (S : Nat) (M : List (Nat × Nat)) (h : Hr) (k a s : Nat) : Bool := !decide (a % s = 0) || !decide (soH S M h k a = 0)
def accH (S : Nat) (M : List (Nat × Nat)) (h : Hr) (k a s : Nat) : Hr := if stopH S M h k a s then h else hH S M h k a
def accM (S : Nat) (M : List (Nat × Nat)) (h : Hr) (k a s v : Nat) : List (Nat × Nat) := if stopH S M h k a s then M else if k = 2 ∧ atH S M h k a < S then storeL (mH S M h k a) (atH S M h k a) s v else mH S M h k a
def accR (S : Nat) (M : List (Nat × Nat)) (h : Hr) (k a s : Nat) : Rs :=
  if a % s = 0 then (if soH S M h k a = 0 then (if atH S M h k a < S then ⟨if k = 2 then 0 else loadL (mH S M h k a) (atH S M h k a) s, ⟨false, 0, 0⟩⟩ else ⟨0, fltF 1 k a⟩) else ⟨0, fltF (soH S M h k a) k a⟩) else ⟨0, ⟨true, cauI k, a⟩⟩
end Go.Proofs.YtlhoedpencmikaaGreatDoor
/- Layer 16, as plain values: what follows (a buffer that tells no more than the tables changes nothing). No program. -/
namespace Go.Proofs.YtlhoedpencmikaaGreatDoor
set_option linter.unusedVariables false
set_option linter.unusedSimpArgs false

theorem mat_mine {e : En} {n : Nat} {a : Int} (h : matE e (n : Int) a = true) : mineE n e = true := by
  have := (mat_split h).2
  unfold mineE
  rw [Bool.or_eq_true, beq_iff_eq]
  rcases this with h1 | h1
  · exact .inl h1
  · exact .inr (by omega)
theorem phy_nat {e : En} {a : Nat} {f : Lf} (hp : f.pt.pp = e.pp) (hl : f.lv = e.l) : phyN f a = (phyE e (a : Int)).toNat := by
  unfold phyN phyE
  rw [hp, hl]
theorem phy_used (f : Lf) (d : Bool) (a : Nat) : phyN { f with pt := usedP f.pt d } a = phyN f a := by
  unfold phyN; simp only [used_pp]
/-- a hit, where the buffer tells no more than the tables: the walk comes to the same, and changes nothing -/
structure Hits (S : Nat) (M : List (Nat × Nat)) (h : Hr) (k a : Nat) : Prop where
  s : walkS S M h.sp.pp a (wayH h k) = 0
  m : walkL S M h.sp.pp a (wayH h k) = M
  at' : phyN (walkF S M h.sp.pp a (wayH h k)) a = (phyE (enT (h.sp.ai : Int) (a : Int) h.L) (a : Int)).toNat
theorem hits {S : Nat} {M : List (Nat × Nat)} {h : Hr} {k a : Nat} (hr : rightT h.L = true) (hM : RL (S / 8) M) (h8 : S % 8 = 0) (hag : agH S M h = true) (hk : k < 3) (hh : hitH h k a = true) : Hits S M h k a := by
  unfold hitH at hh
  simp only [Bool.and_eq_true, Bool.or_eq_true, Bool.not_eq_true', decide_eq_false_iff_not] at hh
  obtain ⟨hok, hal, hd⟩ := hh
  obtain ⟨hmem, hcov⟩ := found_mem hok
  have hmat := found_mat hok
  have A := ag_at hag hmem (mat_mine hmat)
  have hm := all_may hr hmem
  have hlk := look_cov hm hcov A.so A.lv
  have hs : (lookN S M h.sp.pp a).so = 0 := by rw [hlk]; exact A.so
  have hap : pmAl (permP (lookN S M h.sp.pp a).lf.pt) (wayH h k) = true := by rw [hlk]; exact less_al A.pm hal
  obtain ⟨w1, w2, w3⟩ := walk_yes hs hap
  have hlf := (look_leaf hs).2
  have ha' : (lookN S M h.sp.pp a).lf.pt.a = true := by rw [hlk]; exact A.a
  have hd' : ((wayH h k).kd == 2) = true → (lookN S M h.sp.pp a).lf.pt.d = true := fun hq => by
    rw [hlk]
    refine A.d ?_
    rcases hd with hd | hd
    · exfalso; apply hd
      unfold wayH at hq
      simp only [beq_iff_eq] at hq
      omega
    · exact hd
  refine ⟨w1, ?_, ?_⟩
  · rw [w2]; exact mark_used hM h8 hlf ha' hd'
  · rw [w3, phy_used]
    have e1 : (lookN S M h.sp.pp a).lf.pt.pp = (enT (h.sp.ai : Int) (a : Int) h.L).pp := by rw [hlk]; exact A.pp
    have e2 : (lookN S M h.sp.pp a).lf.lv = (enT (h.sp.ai : Int) (a : Int) h.L).l := by rw [hlk]; exact A.lv
    exact phy_nat e1 e2
theorem hit_bare (h : Hr) (k a : Nat) : hitH (bareH h) k a = false := by
  unfold hitH okT bareH
  simp
/-- P16.3: the result and the memory are those without a buffer -/
theorem flat_so {S : Nat} {M : List (Nat × Nat)} {h : Hr} {k a : Nat} (hr : rightT h.L = true) (hM : RL (S / 8) M) (h8 : S % 8 = 0) (hag : agH S M h = true) (hk : k < 3) :
    soH S M (bareH h) k a = soH S M h k a ∧ atH S M (bareH h) k a = atH S M h k a ∧ mH S M (bareH h) k a = mH S M h k a := by
  unfold soH atH mH
  rw [hit_bare]
  have hw : wayH (bareH h) k = wayH h k := rfl
  have hs : (bareH h).sp = h.sp := rfl
  rw [hw, hs]
  by_cases h8' : h.sp.md = 8
  · simp only [h8', if_true]
    cases hh : hitH h k a
    · exact ⟨rfl, rfl, rfl⟩
    · have H := hits hr hM h8 hag hk hh
      simp only [Bool.false_eq_true, if_false, if_true]
      exact ⟨by rw [H.s], H.at', H.m⟩
  · simp only [h8', if_false]
    exact ⟨trivial, trivial, trivial⟩
theorem flat {S : Nat} {M : List (Nat × Nat)} {h : Hr} {k a : Nat} (hr : rightT h.L = true) (hM : RL (S / 8) M) (h8 : S % 8 = 0) (hag : agH S M h = true) (hk : k < 3) (s v : Nat) :
    accR S M (bareH h) k a s = accR S M h k a s ∧ accM S M (bareH h) k a s v = accM S M h k a s v := by
  obtain ⟨h1, h2, h3⟩ := flat_so (a := a) hr hM h8 hag hk
  unfold accR accM stopH
  rw [h1, h2, h3]
  exact ⟨rfl, rfl⟩
/-! what is in a buffer behind a use, behind a put -/
theorem ws_all {L M : List St} (hl : L.length = M.length) (h : ∀ i, i < L.length → (sT L i).ws = (sT M i).ws) : allT L = allT M := by
  unfold allT
  have : L.map (fun s => lsW s.ws) = M.map (fun s => lsW s.ws) := by
    refine List.ext_getElem (by simpa using hl) fun i h1 h2 => ?_
    have hi : i < L.length := by simpa using h1
    have := h i hi
    unfold sT at this
    simp only [List.getElem_map]
    simpa [List.getD, hi, show i < M.length by omega] using congrArg lsW this
  rw [List.flatMap_def, List.flatMap_def, this]
theorem use_ws {L : List St} {i w : Nat} (hi : i < L.length) : (useT L i w).length = L.length ∧ ∀ j, (sT (useT L i w) j).ws = (sT L j).ws := by
  have hu : useT L i w = L.set i ⟨(sT L i).ws, toN (sT L i).t w⟩ := by unfold useT; rfl
  rw [hu]
  refine ⟨by rw [List.length_set], fun j => ?_⟩
  rw [sT_set hi]
  split
  · rename_i e; rw [e]
  · rfl
theorem all_use {L : List St} {i w : Nat} (hi : i < L.length) : allT (useT L i w) = allT L := by
  obtain ⟨h1, h2⟩ := use_ws (w := w) hi
  exact ws_all h1 fun j _ => h2 j
theorem mem_sT {L : List St} {s : St} (h : s ∈ L) : ∃ i, i < L.length ∧ sT L i = s := by
  obtain ⟨i, hi, rfl⟩ := List.getElem_of_mem h
  exact ⟨i, hi, by unfold sT; simp [List.getD, hi]⟩
theorem put_mem {L : List St} (hr : rightT L = true) (e : En) (v : Int) {x : En} (hx : x ∈ allT (putT e v L)) : x = e ∨ x ∈ allT L := by
  rcases Nat.eq_zero_or_pos L.length with h0 | hp
  · rw [putT_nil h0] at hx; exact .inr hx
  · have hi := ix_lt hp (e.vp : Int) e.l
    rw [putT_pos hp] at hx
    unfold allT at hx
    rw [List.mem_flatMap] at hx
    obtain ⟨s, hs, hx⟩ := hx
    obtain ⟨i, hi2, hst⟩ := mem_sT hs
    rw [List.length_set] at hi2
    obtain ⟨hv, w, hw, rfl⟩ := mem_ls hx
    rw [← hst, sT_set hi] at hv ⊢
    by_cases he : i = ixT L.length e.vp e.l
    · rw [if_pos he] at hv ⊢
      rw [putS_at (right_t (rt_s hr hi)) hw] at hv ⊢
      split
      · exact .inl rfl
      · rename_i hne
        rw [if_neg hne] at hv
        split
        · rename_i hq
          rw [if_pos hq, e0_v] at hv
          cases hv
        · rename_i hq
          rw [if_neg hq] at hv
          exact .inr (all_mem hi hw hv)
    · rw [if_neg he] at hv ⊢
      exact .inr (all_mem hi2 hw hv)
end Go.Proofs.YtlhoedpencmikaaGreatDoor
/- Layer 16, as plain values: what is put tells no more than the tables; harts and memories stay right. No program. -/
namespace Go.Proofs.YtlhoedpencmikaaGreatDoor
set_option linter.unusedVariables false
set_option linter.unusedSimpArgs false

theorem ofE_pm (l : Lf) (a n : Nat) : (ofE l a n).pm = permP l.pt := by unfold ofE; rfl
theorem ofE_d (l : Lf) (a n : Nat) : (ofE l a n).d = l.pt.d := by unfold ofE; rfl
theorem leafE_used (f : Lf) (d : Bool) : leafE { f with pt := usedP f.pt d } = leafE f := by
  unfold leafE
  simp only [used_pp]
/-- what a walk that ends at a leaf leaves, and the entry of that leaf -/
structure Puts (S : Nat) (M : List (Nat × Nat)) (r a n : Nat) (y : Wy) : Prop where
  so : (lookN S M r a).so = 0
  al : pmAl (permP (lookN S M r a).lf.pt) y = true
  va : vaB (a : Int) = true
  lf : LeafOf S M (lookN S M r a).lf
  m : walkL S M r a y = markL M (lookN S M r a).lf.at' (y.kd == 2)
  may : mayE (ofE (walkF S M r a y) a n) = true
  v : (ofE (walkF S M r a y) a n).v = true
  n' : (ofE (walkF S M r a y) a n).n = n
  cov : covE (ofE (walkF S M r a y) a n) (a : Int) = true
  pm : pmAl (ofE (walkF S M r a y) a n).pm y = true
  ag : AgP S (walkL S M r a y) r (ofE (walkF S M r a y) a n)
  phy : (phyE (ofE (walkF S M r a y) a n) (a : Int)).toNat = phyN (walkF S M r a y) a
  lk : (lookN S (walkL S M r a y) r a).so = 0 ∧ (lookN S (walkL S M r a y) r a).lf.lv = (ofE (walkF S M r a y) a n).l
theorem puts {S : Nat} {M : List (Nat × Nat)} {r a n : Nat} {y : Wy} (hM : RL (S / 8) M) (ha : a < 18446744073709551616) (hn : n < 65536) (h : walkS S M r a y = 0) : Puts S M r a n y := by
  obtain ⟨h1, h2⟩ := walk_allow h
  obtain ⟨-, e2, e3⟩ := walk_yes h1 h2
  obtain ⟨hva, hlf⟩ := look_leaf h1
  have hm := look_mark hM (y.kd == 2) h1
  rw [← e2, ← e3] at hm
  have hle : leafE (walkF S M r a y) = true := by rw [e3, leafE_used]; exact leaf_may hlf
  have hpm : permP (walkF S M r a y).pt = permP (lookN S M r a).lf.pt := by
    have : (walkF S M r a y).pt = usedP (lookN S M r a).lf.pt (y.kd == 2) := by rw [e3]
    rw [this, perm_used]
  have hpa : (walkF S M r a y).pt.a = true := by
    have : (walkF S M r a y).pt = usedP (lookN S M r a).lf.pt (y.kd == 2) := by rw [e3]
    rw [this, used_a]
  obtain ⟨v1, v2, v3, v4, v5, v6⟩ := ofE_v (walkF S M r a y) a n
  have hmay := ofE_may hle a hn
  have hcov := ofE_cova hle n ha hva
  have hp := ofE_phy (walkF S M r a y) a n (a : Int)
  have hpm2 := ofE_pm (walkF S M r a y) a n
  have hd2 := ofE_d (walkF S M r a y) a n
  clear e3
  obtain ⟨F, hF⟩ : ∃ F, walkF S M r a y = F := ⟨_, rfl⟩
  obtain ⟨K, hK⟩ : ∃ K, walkL S M r a y = K := ⟨_, rfl⟩
  obtain ⟨e, hE⟩ : ∃ e, ofE F a n = e := ⟨_, rfl⟩
  rw [hF] at hm hle hpm hpa v2 v3 v5 v6 hp hpm2 hd2 v1 v4 hmay hcov
  rw [hK] at hm e2
  rw [hE] at v1 v2 v3 v4 v5 v6 hmay hcov hp hpm2 hd2
  have s1 : (lookN S K r a).so = 0 := by rw [hm]
  have s2 : (lookN S K r a).lf = F := by rw [hm]
  have hnear : lookN S K r (fstN e) = lookN S K r a := by
    refine look_near s1 (by rw [fst_eq]; exact of_va _) fun l l1 l2 => ?_
    rw [fst_eq]
    exact (cov_idx hmay hcov (by omega) (by rw [v2, ← s2]; exact l1) l2).symm
  subst hE hK hF
  refine ⟨h1, h2, hva, hlf, e2, hmay, v1, v4, hcov, by rw [hpm2, hpm]; exact h2, ⟨?_, ?_, ?_, ?_, fun hd => ?_, ?_⟩, ?_, s1, by rw [s2, v2]⟩
  · rw [hnear]; exact s1
  · rw [hnear, s2, v2]
  · rw [hnear, s2, v3]
  · rw [hnear, s2]; exact hpa
  · rw [hnear, s2, ← hd2]; exact hd
  · rw [hnear, s2, hpm2]; exact less_self _
  · rw [hp]; unfold phyN; rfl
/-! harts and memories stay right -/
theorem right_split {h : Hr} (hr : rightH h = true) : rightT h.L = true ∧ smB h.sp = true ∧ (h.pr = 0 ∨ h.pr = 1) := by
  unfold rightH at hr
  simp only [Bool.and_eq_true, Bool.or_eq_true, beq_iff_eq] at hr
  exact hr
theorem right_join {h : Hr} (h1 : rightT h.L = true) (h2 : smB h.sp = true) (h3 : h.pr = 0 ∨ h.pr = 1) : rightH h = true := by
  unfold rightH
  simp only [Bool.and_eq_true, Bool.or_eq_true, beq_iff_eq]
  exact ⟨h1, h2, h3⟩
theorem way_is {h : Hr} (hr : rightH h = true) {k : Nat} (hk : k < 3) : wyIs (wayH h k) = true := by
  obtain ⟨-, -, h3⟩ := right_split hr
  refine wy_of ⟨?_, ?_⟩
  · show (k : Int) = 0 ∨ (k : Int) = 1 ∨ (k : Int) = 2
    omega
  · exact h3
/-- what a translation leaves: three ways -/
theorem tr_cases {S : Nat} {M : List (Nat × Nat)} {h : Hr} {k a : Nat} (hs : soH S M h k a = 0) :
    (h.sp.md ≠ 8 ∧ atH S M h k a = a ∧ mH S M h k a = M ∧ hH S M h k a = h) ∨
    (h.sp.md = 8 ∧ vaB (a : Int) = true ∧ hitH h k a = true ∧ atH S M h k a = (phyE (enT (h.sp.ai : Int) (a : Int) h.L) (a : Int)).toNat ∧ mH S M h k a = M ∧ hH S M h k a = { h with L := useT h.L (seT (h.sp.ai : Int) (a : Int) h.L) (wyT (h.sp.ai : Int) (a : Int) h.L) }) ∨
    (h.sp.md = 8 ∧ vaB (a : Int) = true ∧ hitH h k a = false ∧ walkS S M h.sp.pp a (wayH h k) = 0 ∧ atH S M h k a = phyN (walkF S M h.sp.pp a (wayH h k)) a ∧ mH S M h k a = walkL S M h.sp.pp a (wayH h k) ∧
      hH S M h k a = { h with L := putT (ofE (walkF S M h.sp.pp a (wayH h k)) a h.sp.ai) h.vi h.L, vi := -1 }) := by
  unfold soH at hs
  unfold atH mH hH
  by_cases h8 : h.sp.md = 8
  · simp only [h8, if_true] at hs ⊢
    cases hv : vaB (a : Int)
    · rw [hv] at hs; simp at hs
    · rw [hv] at hs
      simp only [if_true] at hs
      cases hh : hitH h k a
      · rw [hh] at hs
        simp only [Bool.false_eq_true, if_false] at hs ⊢
        exact .inr (.inr ⟨trivial, trivial, trivial, hs, trivial, trivial, trivial⟩)
      · simp only [if_true]
        exact .inr (.inl ⟨trivial, trivial, trivial, trivial, trivial, trivial⟩)
  · simp only [h8, if_false]
    exact .inl ⟨h8, trivial, trivial, trivial⟩
theorem hit_ok {h : Hr} {k a : Nat} (hh : hitH h k a = true) : okT (h.sp.ai : Int) (a : Int) h.L = true ∧ pmAl (enT (h.sp.ai : Int) (a : Int) h.L).pm (wayH h k) = true := by
  unfold hitH at hh
  simp only [Bool.and_eq_true] at hh
  exact ⟨hh.1, hh.2.1⟩
theorem mH_is {S : Nat} {M : List (Nat × Nat)} {h : Hr} {k a : Nat} (hM : RL (S / 8) M) (h8 : S % 8 = 0) (hs : soH S M h k a = 0) :
    RL (S / 8) (mH S M h k a) ∧ (mH S M h k a = M ∨ ∃ p d, p % 8 = 0 ∧ leafB (entN M p) = true ∧ mH S M h k a = markL M p d) := by
  rcases tr_cases hs with ⟨-, -, e, -⟩ | ⟨-, -, -, -, e, -⟩ | ⟨-, -, -, hw, -, e, -⟩
  · rw [e]; exact ⟨hM, .inl rfl⟩
  · rw [e]; exact ⟨hM, .inl rfl⟩
  · obtain ⟨h1, h2⟩ := walk_allow hw
    obtain ⟨-, e2, -⟩ := walk_yes h1 h2
    obtain ⟨-, hlf⟩ := look_leaf h1
    have hlt := hlf.lt
    rw [e, e2]
    exact ⟨mark_is hM (by omega) _, .inr ⟨_, _, hlf.al, hlf.leaf, rfl⟩⟩
/-- P16.3: a load, or a fetch, leaves the buffer telling no more -/
theorem acc_ag {S : Nat} {M : List (Nat × Nat)} {h : Hr} {k a : Nat} (hr : rightH h = true) (hM : RL (S / 8) M) (h8 : S % 8 = 0) (ha : a < 18446744073709551616) (hag : agH S M h = true) (hk : k ≠ 2) (s v : Nat) : agH S (accM S M h k a s v) (accH S M h k a s) = true := by
  obtain ⟨r1, r2, r3⟩ := right_split hr
  unfold accM accH
  cases hst : stopH S M h k a s
  · simp only [Bool.false_eq_true, if_false]
    rw [if_neg (fun hq => hk hq.1)]
    have hs : soH S M h k a = 0 := by
      unfold stopH at hst
      simp only [Bool.or_eq_false_iff, Bool.not_eq_false', decide_eq_true_iff] at hst
      exact hst.2
    rcases tr_cases hs with ⟨-, -, e1, e2⟩ | ⟨-, -, hh, -, e1, e2⟩ | ⟨-, -, -, hw, -, e1, e2⟩
    · rw [e1, e2]; exact hag
    · rw [e1, e2]
      have F := found (hit_ok hh).1
      refine ag_of fun e he hm => ?_
      have he' : e ∈ allT h.L := by rw [← all_use F.il]; exact he
      exact ag_at hag he' hm
    · have P := puts (n := h.sp.ai) hM ha (sm_fits r2).2.1 hw
      rw [e1, e2]
      refine ag_of fun e he hm => ?_
      rcases put_mem r1 _ _ he with rfl | he'
      · exact P.ag
      · show AgP S (walkL S M h.sp.pp a (wayH h k)) h.sp.pp e
        rw [P.m]
        exact ag_mark hM P.lf.al P.lf.leaf _ (ag_at hag he' hm)
  · simp only [if_true]; exact hag
end Go.Proofs.YtlhoedpencmikaaGreatDoor
/- Layer 16, as plain values: an access once more; accesses without sets; what stays. No program. -/
namespace Go.Proofs.YtlhoedpencmikaaGreatDoor
set_option linter.unusedVariables false
set_option linter.unusedSimpArgs false

theorem stop_no {S : Nat} {M : List (Nat × Nat)} {h : Hr} {k a s : Nat} (hst : stopH S M h k a s = false) : a % s = 0 ∧ soH S M h k a = 0 := by
  unfold stopH at hst
  simp only [Bool.or_eq_false_iff, Bool.not_eq_false', decide_eq_true_iff] at hst
  exact hst
theorem stop_of {S : Nat} {M : List (Nat × Nat)} {h : Hr} {k a s : Nat} (h1 : a % s = 0) (h2 : soH S M h k a = 0) : stopH S M h k a s = false := by
  unfold stopH
  simp [h1, h2]
/-! what is found hangs on the ways alone -/
theorem find_ws {L K : List St} (hl : L.length = K.length) (hw : ∀ j, (sT L j).ws = (sT K j).ws) (n a : Int) : okT n a L = okT n a K ∧ seT n a L = seT n a K ∧ wyT n a L = wyT n a K ∧ enT n a L = enT n a K := by
  have hlv : ∀ l, lvT n a L l = lvT n a K l := fun l => by unfold lvT; rw [hl, hw]
  have hfl : flT n a L = flT n a K := by unfold flT; rw [hlv, hlv]
  have hok : okT n a L = okT n a K := by unfold okT; rw [hl, hlv, hlv, hlv]
  have hse : seT n a L = seT n a K := by unfold seT; rw [hok, hl, hfl]
  have hwy : wyT n a L = wyT n a K := by unfold wyT; rw [hok, hfl, hse, hw]
  refine ⟨hok, hse, hwy, ?_⟩
  unfold enT; rw [hok, hse, hwy, hw]
/-- what is put is what is found, where the buffer tells no more than the tables -/
theorem put_hit {S : Nat} {M : List (Nat × Nat)} {L : List St} {r n a : Nat} {e : En} {v : Int} (hr : rightT L = true) (hp : 0 < L.length) (hm : mayE e = true) (hv : e.v = true) (hn : e.n = n) (hc : covE e (a : Int) = true)
    (hag : ∀ x ∈ allT (putT e v L), mineE n x = true → AgP S M r x) (hl : (lookN S M r a).lf.lv = e.l) : okT (n : Int) (a : Int) (putT e v L) = true ∧ enT (n : Int) (a : Int) (putT e v L) = e := by
  have h1 := (put_cov hr hp hm v hc).1
  rw [hn] at h1
  refine ⟨h1, ?_⟩
  have F := found h1
  obtain ⟨hmem, hcov⟩ := found_mem h1
  have hmat := found_mat h1
  have hmine := mat_mine hmat
  have hrt := rt_put hr hm v
  have hmx := all_may hrt hmem
  have A := hag _ hmem hmine
  have hlk := look_cov hmx hcov A.so A.lv
  have hlx : (enT (n : Int) (a : Int) (putT e v L)).l = e.l := by rw [← hl, hlk]; exact A.lv.symm
  have hvx := cov_valid hcov
  have hc1 := cov_num hmx hcov
  have hc2 := cov_num hm hc
  rw [hlx] at hc1
  have hsame : sameE e (enT (n : Int) (a : Int) (putT e v L)) = true := by
    unfold sameE
    rw [hv, hvx, hlx]
    unfold mineE at hmine
    rw [Bool.or_eq_true, beq_iff_eq] at hmine
    simp only [Bool.true_and, beq_self_eq_true, Bool.and_eq_true, Bool.or_eq_true, beq_iff_eq]
    refine ⟨by omega, ?_⟩
    rcases hmine with h | h
    · exact .inr (.inl h)
    · exact .inr (.inr (by rw [hn, h]))
  have hflt := enT_lv h1
  have hx := ix_lt hp (e.vp : Int) e.l
  have hi0 : seT (n : Int) (a : Int) (putT e v L) = ixT L.length e.vp e.l := by rw [F.ix, putT_len, ← hflt, hlx, cov_ix hm hc]
  have hst : sT (putT e v L) (ixT L.length e.vp e.l) = putS e v (sT L (ixT L.length e.vp e.l)) := by rw [putT_pos hp, sT_set hx, if_pos rfl]
  have hown := F.own
  rw [hi0, hst, putS_at (right_t (rt_s hr hx)) F.wl] at hown
  split at hown
  · exact hown.symm
  · split at hown
    · rw [← hown, e0_v] at hvx; cases hvx
    · rename_i hno
      rw [hown] at hno
      exact absurd hsame hno
/-- P16.3: an access that is no store, once more -/
structure Again (S : Nat) (M : List (Nat × Nat)) (h : Hr) (k a s : Nat) (N : List (Nat × Nat)) (g : Hr) : Prop where
  r : accR S N g k a s = accR S M h k a s
  m : accM S N g k a s 0 = N
  len : (accH S N g k a s).L.length = g.L.length
  ws : ∀ j, (sT (accH S N g k a s).L j).ws = (sT g.L j).ws
theorem again {S : Nat} {M : List (Nat × Nat)} {h : Hr} {k a s : Nat} (hr : rightH h = true) (hM : RL (S / 8) M) (h8 : S % 8 = 0) (ha : a < 18446744073709551616) (hon : h.sp.md = 8) (hag : agH S M h = true) (hk : k < 2) :
    Again S M h k a s (accM S M h k a s 0) (accH S M h k a s) := by
  obtain ⟨r1, r2, r3⟩ := right_split hr
  have hag1 := acc_ag (k := k) hr hM h8 ha hag (by omega) s 0
  cases hst : stopH S M h k a s
  case true =>
    have e1 : accM S M h k a s 0 = M := by unfold accM; rw [hst, if_pos rfl]
    have e2 : accH S M h k a s = h := by unfold accH; rw [hst, if_pos rfl]
    rw [e1, e2]
    exact ⟨rfl, e1, by rw [e2], fun j => by rw [e2]⟩
  obtain ⟨hs1, hs2⟩ := stop_no hst
  have e1 : accM S M h k a s 0 = mH S M h k a := by unfold accM; rw [hst, if_neg (by decide), if_neg (fun hq => by omega)]
  have e2 : accH S M h k a s = hH S M h k a := by unfold accH; rw [hst, if_neg (by decide)]
  rw [e1, e2] at hag1 ⊢
  -- what is needed of the second: where it leads
  have key : ∀ (N : List (Nat × Nat)) (g : Hr), soH S N g k a = 0 → atH S N g k a = atH S M h k a → mH S N g k a = mH S M h k a → N = mH S M h k a → (hH S N g k a).L.length = g.L.length → (∀ j, (sT (hH S N g k a).L j).ws = (sT g.L j).ws) → Again S M h k a s N g := fun N g k1 k2 k3 k4 k5 k6 => by
    have hst2 := stop_of hs1 k1
    have e3 : accH S N g k a s = hH S N g k a := by unfold accH; rw [hst2, if_neg (by decide)]
    refine ⟨?_, ?_, by rw [e3]; exact k5, fun j => by rw [e3]; exact k6 j⟩
    · unfold accR; rw [k1, k2, k3, hs2]
    · unfold accM; rw [hst2, if_neg (by decide), if_neg (fun hq => by omega), k3, k4]
  rcases tr_cases hs2 with ⟨c1, -, -, -⟩ | ⟨c1, c2, hh, c3, c4, c5⟩ | ⟨c1, c2, hh, hw, c3, c4, c5⟩
  · exact absurd hon c1
  · -- it was there
    have F := found (hit_ok hh).1
    obtain ⟨u1, u2⟩ := use_ws (L := h.L) (w := wyT (h.sp.ai : Int) (a : Int) h.L) F.il
    obtain ⟨f1, f2, f3, f4⟩ := find_ws u1 u2 (h.sp.ai : Int) (a : Int)
    have hh2 : hitH (hH S M h k a) k a = true := by
      rw [c5]
      unfold hitH at hh ⊢
      show (okT (h.sp.ai : Int) (a : Int) (useT h.L _ _) && _) = true
      rw [f1]
      show (okT (h.sp.ai : Int) (a : Int) h.L && (pmAl (enT (h.sp.ai : Int) (a : Int) (useT h.L _ _)).pm (wayH h k) && (!decide (k = 2) || (enT (h.sp.ai : Int) (a : Int) (useT h.L _ _)).d))) = true
      rw [f4]
      exact hh
    have hsp : (hH S M h k a).sp = h.sp := by rw [c5]
    have hL : (hH S M h k a).L = useT h.L (seT (h.sp.ai : Int) (a : Int) h.L) (wyT (h.sp.ai : Int) (a : Int) h.L) := by rw [c5]
    rw [c4]
    have hF2 : seT (h.sp.ai : Int) (a : Int) h.L < (useT h.L (seT (h.sp.ai : Int) (a : Int) h.L) (wyT (h.sp.ai : Int) (a : Int) h.L)).length := by rw [u1]; exact F.il
    have hHL : (hH S M (hH S M h k a) k a).L = useT (hH S M h k a).L (seT (h.sp.ai : Int) (a : Int) h.L) (wyT (h.sp.ai : Int) (a : Int) h.L) := by
      have : hH S M (hH S M h k a) k a = { hH S M h k a with L := useT (hH S M h k a).L (seT ((hH S M h k a).sp.ai : Int) (a : Int) (hH S M h k a).L) (wyT ((hH S M h k a).sp.ai : Int) (a : Int) (hH S M h k a).L) } := by
        rw [hH, if_pos (by rw [hsp]; exact hon), if_pos hh2]
      rw [this, hsp, hL, f2, f3]
    refine key _ _ ?_ ?_ ?_ c4.symm ?_ ?_
    · unfold soH; rw [hsp, if_pos hon, if_pos c2, if_pos hh2]
    · rw [c3]; unfold atH; rw [hsp, if_pos hon, if_pos hh2, hL, f4]
    · rw [c4]; unfold mH; rw [hsp, if_pos hon, if_pos hh2]
    · rw [hHL]; exact (use_ws (by rw [hL]; exact hF2)).1
    · rw [hHL]; exact (use_ws (by rw [hL]; exact hF2)).2
  · -- it was walked
    have P := puts (n := h.sp.ai) hM ha (sm_fits r2).2.1 hw
    have hsp : (hH S M h k a).sp = h.sp := by rw [c5]
    have hwy : wayH (hH S M h k a) k = wayH h k := by rw [c5]; rfl
    have hL : (hH S M h k a).L = putT (ofE (walkF S M h.sp.pp a (wayH h k)) a h.sp.ai) h.vi h.L := by rw [c5]
    rcases Nat.eq_zero_or_pos h.L.length with h0 | hp
    · have hL0 : (hH S M h k a).L.length = 0 := by rw [hL, putT_len]; exact h0
      have hh2 : hitH (hH S M h k a) k a = false := by
        unfold hitH okT
        rw [hL0]
        simp
      obtain ⟨a1, a2, a3⟩ := walk_again hM h8 hw
      have hHL : (hH S (mH S M h k a) (hH S M h k a) k a).L.length = 0 ∧ (hH S (mH S M h k a) (hH S M h k a) k a).L = (hH S M h k a).L := by
        have : (hH S (mH S M h k a) (hH S M h k a) k a).L = putT (ofE (walkF S (mH S M h k a) (hH S M h k a).sp.pp a (wayH (hH S M h k a) k)) a (hH S M h k a).sp.ai) (hH S M h k a).vi (hH S M h k a).L := by
          rw [hH, if_pos (by rw [hsp]; exact hon), if_neg (by rw [hh2]; decide)]
        rw [this, putT_nil hL0]
        exact ⟨hL0, rfl⟩
      refine key _ _ ?_ ?_ ?_ rfl ?_ ?_
      · unfold soH; rw [hsp, if_pos hon, if_pos c2, if_neg (by rw [hh2]; decide), hwy, c4]; exact a1
      · rw [c3]; unfold atH; rw [hsp, if_pos hon, if_neg (by rw [hh2]; decide), hwy, c4, a3]
      · rw [c4]
        have : mH S (walkL S M h.sp.pp a (wayH h k)) (hH S M h k a) k a = walkL S (walkL S M h.sp.pp a (wayH h k)) (hH S M h k a).sp.pp a (wayH (hH S M h k a) k) := by
          unfold mH; rw [hsp, if_pos hon, if_neg (by rw [hh2]; decide)]
        rw [this, hsp, hwy, a2]
      · rw [hHL.1, hL0]
      · intro j; rw [hHL.2]
    · have hPH := put_hit (S := S) (M := walkL S M h.sp.pp a (wayH h k)) (r := h.sp.pp) (v := h.vi) r1 hp P.may P.v P.n' P.cov (fun x hx hm => by
        have hq := ag_at hag1 (e := x) (by rw [hL]; exact hx) (by rw [hsp]; exact hm)
        rw [hsp, c4] at hq
        exact hq) P.lk.2
      obtain ⟨q1, q2⟩ := hPH
      rw [← hL] at q1 q2
      have F := found q1
      have hh2 : hitH (hH S M h k a) k a = true := by
        unfold hitH
        rw [hsp, q1, q2, hwy, P.pm]
        simp only [Bool.true_and, Bool.or_eq_true, Bool.not_eq_true', decide_eq_false_iff_not]
        exact .inl (by omega)
      have hHL : (hH S (mH S M h k a) (hH S M h k a) k a).L = useT (hH S M h k a).L (seT (h.sp.ai : Int) (a : Int) (hH S M h k a).L) (wyT (h.sp.ai : Int) (a : Int) (hH S M h k a).L) := by
        have : (hH S (mH S M h k a) (hH S M h k a) k a).L = useT (hH S M h k a).L (seT ((hH S M h k a).sp.ai : Int) (a : Int) (hH S M h k a).L) (wyT ((hH S M h k a).sp.ai : Int) (a : Int) (hH S M h k a).L) := by
          rw [hH, if_pos (by rw [hsp]; exact hon), if_pos hh2]
        rw [this, hsp]
      refine key _ _ ?_ ?_ ?_ rfl ?_ ?_
      · unfold soH; rw [hsp, if_pos hon, if_pos c2, if_pos hh2]
      · rw [c3]; unfold atH; rw [hsp, if_pos hon, if_pos hh2, q2]; exact P.phy
      · rw [c4]
        unfold mH; rw [hsp, if_pos hon, if_pos hh2]
      · rw [hHL]; exact (use_ws F.il).1
      · rw [hHL]; exact (use_ws F.il).2
end Go.Proofs.YtlhoedpencmikaaGreatDoor
/- Layer 16, as plain values: accesses without sets; what stays; what was stored is loaded. No program. -/
namespace Go.Proofs.YtlhoedpencmikaaGreatDoor
set_option linter.unusedVariables false
set_option linter.unusedSimpArgs false

theorem flt_eq {so : Nat} (h : so ≠ 0) (k a : Nat) : fltF so k a = ⟨true, cauI (3 * so + k), a⟩ := by unfold fltF; rw [if_neg h]
theorem hit_none {h : Hr} (hL : h.L.length = 0) (k a : Nat) : hitH h k a = false := by
  unfold hitH okT
  rw [hL]
  simp
attribute [irreducible] markW rightH wayH bareH agB mineE agH phyN hitH soH atH mH hH stopH accH accM accR
end Go.Proofs.YtlhoedpencmikaaGreatDoor
