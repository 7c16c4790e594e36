/- Layer 19, as plain values: whether a tree is right, table by table; pages as they are told, and walks to canonical addresses. No program. -/
import Derived.Test.YtcllbidhjggjiaaDoorGmtab
import Derived.Test.YtcllbidhjggjiaaDoorPg
import Derived.Test.YtcllbidhjggjiaaDoorSpt
namespace Go.Proofs.YtcllbidhjggjiaaDoor
set_option linter.unusedVariables false
set_option linter.unusedSimpArgs false

/-! whether a tree is right, behind tables that were met -/
def frs (L : List (Nat × Nat)) (n t : Nat) : List Nat := (tabs L n t).map (·.1)
def frI (L : List (Nat × Nat)) (n t k : Nat) : List Nat := t :: (List.range k).flatMap fun i => if goB L t i n then frs L (n - 1) (tE L t i).pp else []
def okR (S : Nat) (M F : List Nat) : Prop := (M ++ F).Nodup ∧ (∀ x ∈ F, x < S / 4096) ∧ (M ++ F).length ≤ 64
instance (S : Nat) (M F : List Nat) : Decidable (okR S M F) := by unfold okR; infer_instance
def rightM (S : Nat) (L : List (Nat × Nat)) (n t : Nat) (M : List Nat) : Bool := decide (okR S M (frs L n t))
theorem frs_frI (L : List (Nat × Nat)) (n t : Nat) : frs L n t = frI L n t 512 := by
  unfold frs frI
  cases n with
  | zero =>
    rw [tabs, List.map_cons, List.map_nil]
    refine congrArg (List.cons t) ?_
    symm
    rw [List.flatMap_eq_nil_iff]
    intro i _
    rw [go_zero]; rfl
  | succ n =>
    rw [tabs, List.map_cons, List.map_flatMap]
    refine congrArg (List.cons t) (flat_congr fun i _ => ?_)
    by_cases hg : goB L t i (n + 1) = true
    · rw [if_pos hg, if_pos hg]; rfl
    · rw [if_neg hg, if_neg hg]; rfl
theorem frI_0 (L : List (Nat × Nat)) (n t : Nat) : frI L n t 0 = [t] := rfl
theorem frI_skip {L : List (Nat × Nat)} {n t k : Nat} (h : goB L t k n = false) : frI L n t (k + 1) = frI L n t k := by
  unfold frI
  rw [List.range_succ, List.flatMap_append, List.flatMap_cons, h]
  simp
theorem frI_go {L : List (Nat × Nat)} {n t k : Nat} (h : goB L t k n = true) : frI L n t (k + 1) = frI L n t k ++ frs L (n - 1) (tE L t k).pp := by
  unfold frI
  rw [List.range_succ, List.flatMap_append, List.flatMap_cons, h]
  simp
theorem frI_pre (L : List (Nat × Nat)) (n t : Nat) : ∀ d k : Nat, ∃ r, frI L n t (k + d) = frI L n t k ++ r
  | 0, k => ⟨[], by rw [List.append_nil]; rfl⟩
  | d + 1, k => by
    obtain ⟨r, e⟩ := frI_pre L n t d k
    cases hg : goB L t (k + d) n
    · exact ⟨r, by rw [show k + (d + 1) = k + d + 1 from rfl, frI_skip hg, e]⟩
    · exact ⟨r ++ frs L (n - 1) (tE L t (k + d)).pp, by rw [show k + (d + 1) = k + d + 1 from rfl, frI_go hg, e, List.append_assoc]⟩
theorem okR_pre {S : Nat} {M F G : List Nat} (h : okR S M (F ++ G)) : okR S M F ∧ okR S (M ++ F) G := by
  obtain ⟨h1, h2, h3⟩ := h
  rw [← List.append_assoc] at h1 h3
  refine ⟨⟨(List.nodup_append.1 h1).1, fun x hx => h2 x (List.mem_append_left _ hx), ?_⟩, h1, fun x hx => h2 x (List.mem_append_right _ hx), h3⟩
  rw [List.length_append] at h3; omega
theorem okR_join {S : Nat} {M F G : List Nat} (h : okR S M F) (k : okR S (M ++ F) G) : okR S M (F ++ G) := by
  obtain ⟨h1, h2, h3⟩ := h
  obtain ⟨k1, k2, k3⟩ := k
  rw [List.append_assoc] at k1 k3
  exact ⟨k1, fun x hx => (List.mem_append.1 hx).elim (h2 x) (k2 x), k3⟩
/-- the top: it isn't below Size, or too many were met, or it was -/
theorem rightM_top {S : Nat} {L : List (Nat × Nat)} {n t : Nat} {M : List Nat} (h : ¬ (t < S / 4096 ∧ M.length < 64 ∧ t ∉ M)) : rightM S L n t M = false := by
  unfold rightM
  rw [decide_eq_false_iff_not]
  rintro ⟨h1, h2, h3⟩
  obtain ⟨r, e⟩ := tabs_head L n t
  have ef : frs L n t = t :: r.map (·.1) := by unfold frs; rw [e]; rfl
  rw [ef] at h1 h2 h3
  refine h ⟨h2 t List.mem_cons_self, ?_, fun hm => ?_⟩
  · rw [List.length_append, List.length_cons] at h3; omega
  · exact (List.nodup_append.1 h1).2.2 t hm t List.mem_cons_self rfl
theorem okR_top {S t : Nat} {M : List Nat} (hM : M.Nodup) (h1 : t < S / 4096) (h2 : M.length < 64) (h3 : t ∉ M) : okR S M [t] := by
  refine ⟨?_, fun x hx => by rw [List.mem_singleton.1 hx]; exact h1, by rw [List.length_append, List.length_singleton]; omega⟩
  rw [List.nodup_append]
  exact ⟨hM, by simp, fun a ha b hb e => h3 (by rw [List.mem_singleton.1 hb] at e; rwa [← e])⟩
/-- a link: its tree is right behind what was met till then; else the whole isn't -/
theorem right_step {S : Nat} {L : List (Nat × Nat)} {n t k : Nat} {M : List Nat} (h : okR S M (frI L n t k)) (hg : goB L t k n = true) (hr : rightM S L (n - 1) (tE L t k).pp (M ++ frI L n t k) = true) : okR S M (frI L n t (k + 1)) := by
  rw [frI_go hg]
  exact okR_join h (of_decide_eq_true hr)
theorem right_fail {S : Nat} {L : List (Nat × Nat)} {n t k : Nat} {M : List Nat} (hk : k < 512) (hg : goB L t k n = true) (hr : rightM S L (n - 1) (tE L t k).pp (M ++ frI L n t k) = false) : rightM S L n t M = false := by
  unfold rightM
  rw [decide_eq_false_iff_not]
  intro h
  rw [frs_frI] at h
  obtain ⟨r, e⟩ := frI_pre L n t (512 - (k + 1)) (k + 1)
  rw [show k + 1 + (512 - (k + 1)) = 512 by omega, frI_go hg, List.append_assoc] at e
  rw [e] at h
  have h2 := (okR_pre (okR_pre h).2).1
  exact of_decide_eq_false hr h2
theorem right_done {S : Nat} {L : List (Nat × Nat)} {n t : Nat} {M : List Nat} (h : okR S M (frI L n t 512)) : rightM S L n t M = true := by
  unfold rightM
  rw [frs_frI]
  exact decide_eq_true h
theorem right_tree {S : Nat} {L : List (Nat × Nat)} {n t : Nat} : rightM S L n t [] = true ↔ TreeOk S L n t := by
  unfold rightM
  rw [decide_eq_true_iff]
  unfold okR frs
  rw [List.nil_append]
  constructor
  · rintro ⟨h1, h2, h3⟩
    exact ⟨fun x hx => h2 x.1 (List.mem_map.2 ⟨x, hx, rfl⟩), h1, by rwa [List.length_map] at h3⟩
  · rintro ⟨h1, h2, h3⟩
    exact ⟨h2, fun x hx => by obtain ⟨y, hy, e⟩ := List.mem_map.1 hx; rw [← e]; exact h1 y hy, by rwa [List.length_map]⟩

/-! pages as they are told, of the base 0 -/
def vaN (v : Nat) : Nat := if v < 274877906944 then v else v + 18446743523953737728
def pgO (x : Nat × Nat × Pt) : Pg := ⟨vaN x.1, 4096 * x.2.2.pp, (x.2.1 : Int), permP x.2.2, x.2.2.d⟩
def pgL (L : List (Nat × Nat)) (n t : Nat) : List Pg := (pgs L n t 0).map pgO
theorem sz_vals : szN 0 = 4096 ∧ szN 1 = 2097152 ∧ szN 2 = 1073741824 ∧ szN 3 = 549755813888 := by decide
theorem raw_va {a : Nat} (h : vaB (a : Int) = true) (ha : a < 18446744073709551616) : vaN (a % szN 3) = a := by
  have h1 : (a : Int) < 274877906944 ∨ (18446743798831644672 : Int) ≤ a := by
    unfold vaB at h; simpa using h
  rw [sz_vals.2.2.2]
  unfold vaN
  rcases h1 with h1 | h1
  · rw [if_pos (by omega)]; omega
  · rw [if_neg (by omega)]; omega
theorem va_raw {v : Nat} (h : v < szN 3) : vaN v % szN 3 = v ∧ vaB (vaN v : Int) = true ∧ vaN v < 18446744073709551616 := by
  rw [sz_vals.2.2.2] at h ⊢
  unfold vaN vaB
  by_cases h1 : v < 274877906944
  · rw [if_pos h1]
    refine ⟨by omega, ?_, by omega⟩
    rw [decide_eq_true (show ((v : Nat) : Int) < 274877906944 by omega)]; rfl
  · rw [if_neg h1]
    refine ⟨by omega, ?_, by omega⟩
    rw [decide_eq_true (show (18446743798831644672 : Int) ≤ ((v + 18446743523953737728 : Nat) : Int) by omega)]; simp
theorem va_le {v w : Nat} : vaN v ≤ vaN w ↔ v ≤ w := by
  unfold vaN
  by_cases h1 : v < 274877906944
  · rw [if_pos h1]
    by_cases h2 : w < 274877906944
    · rw [if_pos h2]
    · rw [if_neg h2]
      constructor
      · intro _; omega
      · intro _; omega
  · rw [if_neg h1]
    by_cases h2 : w < 274877906944
    · rw [if_pos h2]
      constructor
      · intro h; omega
      · intro h; omega
    · rw [if_neg h2]; omega
theorem va_add {v n : Nat} (hn : n ≤ 2) (hd : szN n ∣ v) : vaN (v + (szN n - 1)) = vaN v + (szN n - 1) := by
  have hh : szN n ∣ 274877906944 := by
    rcases (by omega : n = 0 ∨ n = 1 ∨ n = 2) with rfl | rfl | rfl
    · rw [sz_vals.1]; decide
    · rw [sz_vals.2.1]; decide
    · rw [sz_vals.2.2.1]; decide
  have hp := szN_pos n
  unfold vaN
  obtain ⟨c, rfl⟩ := hd
  obtain ⟨d, hd⟩ := hh
  by_cases h1 : szN n * c < 274877906944
  · rw [if_pos h1]
    rw [hd] at h1 ⊢
    have hc : c < d := Nat.lt_of_mul_lt_mul_left h1
    have : szN n * (c + 1) ≤ szN n * d := Nat.mul_le_mul_left _ hc
    rw [Nat.mul_add, Nat.mul_one] at this
    rw [if_pos (by omega)]
  · rw [if_neg h1]
    rw [if_neg (by omega)]; omega
theorem va_of {v : Nat} (h : v < szN 3) (hd : 4096 ∣ v) : (ofI (numI (v : Int))) = (vaN v : Int) := by
  rw [sz_vals.2.2.2] at h
  unfold ofI numI vaN
  obtain ⟨c, rfl⟩ := hd
  have e : ((4096 * c : Nat) : Int) / 4096 % 134217728 = (c : Int) := by omega
  rw [e]
  by_cases h1 : 4096 * c < 274877906944
  · rw [if_pos h1, if_pos (by omega)]; omega
  · rw [if_neg h1, if_neg (by omega)]; omega
/-- what a page that is told is, of a tree of the level 2 -/
structure PgT (S : Nat) (L : List (Nat × Nat)) (t : Nat) (x : Pg) (last : Nat) : Prop where
  lv : 0 ≤ x.lv ∧ x.lv ≤ 2
  va : x.va < 18446744073709551616
  las : (last : Int) = (x.va : Int) + sizI x.lv - 1
  las64 : last < 18446744073709551616
  fit : fitB (x.va : Int) x.lv = true
  look : ∃ k p, (lookN S L t x.va = ⟨0, ⟨x.lv, k, p⟩⟩) ∧ (lookN S L t last = ⟨0, ⟨x.lv, k, p⟩⟩) ∧ x.pa = 4096 * p.pp ∧ permP p = x.pm ∧ p.d = x.st ∧ p.pp < 17592186044416
theorem pg_told {S : Nat} {L : List (Nat × Nat)} {t : Nat} (hT : TreeOk S L 2 t) {x : Nat × Nat × Pt} (hx : x ∈ pgs L 2 t 0) : PgT S L t (pgO x) (vaN x.1 + (szN x.2.1 - 1)) := by
  obtain ⟨v, l, p⟩ := x
  have hin := pgs_in hx
  obtain ⟨k, g', hw⟩ := pgs_walk (S := S) false (Nat.le_refl 2) (Nat.dvd_zero _) hT.lt hx
  have h1 := hin.hi
  have h2 := hin.lv
  have h3 := hin.al
  obtain ⟨ft, fi, -, hen⟩ := hin.en
  simp only at h1 h2 h3 hen hw
  rw [Nat.sub_zero] at h3
  rw [Nat.zero_add, show szN (2 + 1) = szN 3 from rfl] at h1
  have hp := szN_pos l
  have e1 := va_raw (v := v) (by omega)
  have e2 := va_raw (v := v + (szN l - 1)) (by omega)
  have e3 := va_add h2 h3
  rw [e3] at e2
  have hl : ∀ a : Nat, vaB (a : Int) = true → v ≤ a % szN 3 → a % szN 3 < v + szN l → lookN S L t a = ⟨0, ⟨(l : Int), k, globP p g'⟩⟩ := fun a h4 h5 h6 => by
    unfold lookN
    rw [if_pos h4]
    exact hw a h5 h6
  have hpp : p.pp < 17592186044416 := by
    rw [hen]; unfold tE getP; exact Nat.mod_lt _ (by decide)
  have l1 := hl (vaN v) e1.2.1 (by rw [e1.1]; exact Nat.le_refl _) (by rw [e1.1]; omega)
  have l2 := hl (vaN v + (szN l - 1)) e2.2.1 (by rw [e2.1]; omega) (by rw [e2.1]; omega)
  have hg : (globP p g').pp = p.pp ∧ (globP p g').d = p.d := by unfold globP; exact ⟨rfl, rfl⟩
  refine ⟨⟨by show (0 : Int) ≤ (l : Int); omega, by show (l : Int) ≤ 2; omega⟩, e1.2.2, ?_, e2.2.2, ?_, k, globP p g', l1, l2, by rw [hg.1]; rfl, perm_glob p g', hg.2, by rw [hg.1]; exact hpp⟩
  · show ((vaN v + (szN l - 1) : Nat) : Int) = (vaN v : Int) + sizI (l : Int) - 1
    rw [siz_szN]; omega
  · show fitB (vaN v : Int) (l : Int) = true
    unfold fitB offI
    rw [e1.2.1, siz_szN, Bool.true_and, beq_iff_eq]
    have hd : szN l ∣ vaN v := by
      have h5 : szN l ∣ szN 3 := szN_dvd (by omega)
      have e4 : vaN v = szN 3 * (vaN v / szN 3) + v := by
        have := Nat.div_add_mod (vaN v) (szN 3)
        rw [e1.1] at this; exact this.symm
      rw [e4]
      exact Nat.dvd_add (Nat.dvd_trans h5 (Nat.dvd_mul_right _ _)) h3
    obtain ⟨c, hc⟩ := hd
    rw [hc]
    have : ((szN l * c : Nat) : Int) % (szN l : Int) = ((szN l * c % szN l : Nat) : Int) := by rw [Int.natCast_emod]
    rw [this, Nat.mul_mod_right]; rfl
/-- pages that are told lie apart, one behind the other -/
theorem pg_apart {S : Nat} {L : List (Nat × Nat)} {t : Nat} (hT : TreeOk S L 2 t) : (pgL L 2 t).Pairwise fun x y => (x.va : Int) + sizI x.lv ≤ (y.va : Int) := by
  unfold pgL
  rw [List.pairwise_map]
  refine (pgs_sorted L 2 t 0).imp_of_mem fun {x y} hx hy h => ?_
  obtain ⟨v, l, p⟩ := x
  obtain ⟨w, m, q⟩ := y
  have hin := pgs_in hx
  have h2 := hin.lv
  have h3 := hin.al
  simp only at h h2 h3
  rw [Nat.sub_zero] at h3
  show (vaN v : Int) + sizI (l : Int) ≤ (vaN w : Int)
  rw [siz_szN]
  have hp := szN_pos l
  have e := va_add h2 h3
  have h4 : vaN (v + (szN l - 1)) < vaN w := by
    rw [← Nat.not_le, va_le]; omega
  omega
/-- an address comes to a leaf just where it lies in a page that is told -/
theorem pg_hit {S : Nat} {L : List (Nat × Nat)} {t a : Nat} (hT : TreeOk S L 2 t) (hv : vaB (a : Int) = true) (ha : a < 18446744073709551616) : (lookN S L t a).so = 0 ↔ ∃ x ∈ pgL L 2 t, (x.va : Int) ≤ (a : Int) ∧ (a : Int) < (x.va : Int) + sizI x.lv := by
  have er := raw_va hv ha
  have hlook : lookN S L t a = downN S L a 2 t false := by unfold lookN; rw [if_pos hv]
  have hr3 : a % szN 3 < szN 3 := Nat.mod_lt _ (szN_pos 3)
  constructor
  · intro h
    rw [hlook] at h
    obtain ⟨x, hx, x1, x2⟩ := walk_pgs (b := 0) (Nat.le_refl 2) (Nat.dvd_zero _) hT.lt (Nat.zero_le _) (by rw [Nat.zero_add]; exact hr3) h
    refine ⟨pgO x, List.mem_map.2 ⟨x, hx, rfl⟩, ?_⟩
    obtain ⟨v, l, p⟩ := x
    have hin := pgs_in hx
    have h2 := hin.lv
    have h3 := hin.al
    simp only at x1 x2 h2 h3
    rw [Nat.sub_zero] at h3
    show (vaN v : Int) ≤ (a : Int) ∧ (a : Int) < (vaN v : Int) + sizI (l : Int)
    rw [siz_szN]
    have e := va_add h2 h3
    have hp := szN_pos l
    have m1 : vaN v ≤ vaN (a % szN 3) := va_le.2 x1
    have m2 : vaN (a % szN 3) ≤ vaN (v + (szN l - 1)) := va_le.2 (by omega)
    rw [er] at m1 m2
    omega
  · rintro ⟨y, hy, y1, y2⟩
    obtain ⟨x, hx, rfl⟩ := List.mem_map.1 hy
    obtain ⟨v, l, p⟩ := x
    obtain ⟨k, g', hw⟩ := pgs_walk (S := S) false (Nat.le_refl 2) (Nat.dvd_zero _) hT.lt hx
    have hin := pgs_in hx
    have h2 := hin.lv
    have h3 := hin.al
    simp only at hw h2 h3
    rw [Nat.sub_zero] at h3
    have z1 : (vaN v : Int) ≤ (a : Int) := y1
    have z2 : (a : Int) < (vaN v : Int) + sizI (l : Int) := y2
    rw [siz_szN] at z2
    have hp := szN_pos l
    have e := va_add h2 h3
    have m1 : v ≤ a % szN 3 := va_le.1 (by rw [er]; omega)
    have m2 : a % szN 3 ≤ v + (szN l - 1) := va_le.1 (by rw [er, e]; omega)
    rw [hlook, hw a m1 (by omega)]
attribute [irreducible] rightM frs frI vaN pgO pgL
end Go.Proofs.YtcllbidhjggjiaaDoor
