/- Layer 19, as plain values: what a walk through a tree, table by table, meets: the spots, in order (unL); the frames and the pages of a tree out of these. No program. -/
import Derived.Test.YtcllbidhjggjiaaDoorMtabd
import Derived.Test.YtcllbidhjggjiaaDoorSpt
namespace Go.Proofs.YtcllbidhjggjiaaDoor
set_option linter.unusedVariables false
set_option linter.unusedSimpArgs false

/-- a table's entries whose words are not 0, below an index -/
def entP (L : List (Nat × Nat)) (t k : Nat) : List (Nat × Pt) := ((List.range k).filter fun i => wordL L (512 * t + i) != 0).map fun i => (i, tE L t i)
theorem entP_0 (L : List (Nat × Nat)) (t : Nat) : entP L t 0 = [] := rfl
theorem entP_yes {L : List (Nat × Nat)} {t k : Nat} (h : wordL L (512 * t + k) ≠ 0) : entP L t (k + 1) = entP L t k ++ [(k, tE L t k)] := by
  unfold entP
  rw [List.range_succ, List.filter_append, List.map_append]
  simp [h]
theorem entP_no {L : List (Nat × Nat)} {t k : Nat} (h : wordL L (512 * t + k) = 0) : entP L t (k + 1) = entP L t k := by
  unfold entP
  rw [List.range_succ, List.filter_append, List.map_append]
  simp [h]
theorem entP_pre (L : List (Nat × Nat)) (t : Nat) : ∀ d k : Nat, ∃ r, entP L t (k + d) = entP L t k ++ r
  | 0, k => ⟨[], by rw [List.append_nil]; rfl⟩
  | d + 1, k => by
    obtain ⟨r, e⟩ := entP_pre L t d k
    by_cases h : wordL L (512 * t + (k + d)) = 0
    · exact ⟨r, by rw [show k + (d + 1) = k + d + 1 from rfl, entP_no h, e]⟩
    · exact ⟨r ++ [(k + d, tE L t (k + d))], by rw [show k + (d + 1) = k + d + 1 from rfl, entP_yes h, e, List.append_assoc]⟩
theorem entP_mem {L : List (Nat × Nat)} {t k : Nat} {x : Nat × Pt} (h : x ∈ entP L t k) : x.1 < k ∧ x.2 = tE L t x.1 ∧ wordL L (512 * t + x.1) ≠ 0 := by
  unfold entP at h
  obtain ⟨i, hi, rfl⟩ := List.mem_map.1 h
  obtain ⟨h1, h2⟩ := List.mem_filter.1 hi
  exact ⟨List.mem_range.1 h1, rfl, by simpa using h2⟩
theorem nul_bad {L : List (Nat × Nat)} {t i : Nat} (h : wordL L (512 * t + i) = 0) (n : Int) : badB (tE L t i) n = true := by
  unfold tE
  rw [h]
  unfold badB getP
  simp
theorem flat_ent {β : Type} {L : List (Nat × Nat)} {t : Nat} (f : Nat × Pt → List β) (h : ∀ i, wordL L (512 * t + i) = 0 → f (i, tE L t i) = []) : ∀ k, (entP L t k).flatMap f = (List.range k).flatMap fun i => f (i, tE L t i)
  | 0 => rfl
  | k + 1 => by
    rw [List.range_succ, List.flatMap_append, ← flat_ent f h k]
    by_cases hw : wordL L (512 * t + k) = 0
    · rw [entP_no hw]; simp [h k hw]
    · rw [entP_yes hw, List.flatMap_append]; simp
/-- the spots of one entry: none, it alone, or it and what is under it -/
def unE (n t b : Nat) (sub : Nat → Nat → List (Nat × Spt)) (x : Nat × Pt) : List (Nat × Spt) :=
  if badB x.2 (n : Int) then [] else (b + x.1 * szN n, ⟨t, (n : Int), x.2⟩) :: (if linkB x.2 then sub x.2.pp (b + x.1 * szN n) else [])
/-- the spots of a tree -/
def unL (L : List (Nat × Nat)) : Nat → Nat → Nat → List (Nat × Spt)
  | 0, t, b => (entP L t 512).flatMap fun x => unE 0 t b (fun _ _ => []) x
  | n + 1, t, b => (entP L t 512).flatMap fun x => unE (n + 1) t b (fun u c => unL L n u c) x
/-- of one entry -/
def unO (L : List (Nat × Nat)) (n t b : Nat) (x : Nat × Pt) : List (Nat × Spt) :=
  match n with
  | 0 => unE 0 t b (fun _ _ => []) x
  | n + 1 => unE (n + 1) t b (fun u c => unL L n u c) x
theorem unL_flat (L : List (Nat × Nat)) (n t b : Nat) : unL L n t b = (entP L t 512).flatMap (unO L n t b) := by
  cases n <;> rfl
theorem unO_bad {L : List (Nat × Nat)} {n t b : Nat} {x : Nat × Pt} (h : badB x.2 (n : Int) = true) : unO L n t b x = [] := by
  cases n <;> (simp only [unO, unE]; rw [h]; rfl)
theorem unO_leaf {L : List (Nat × Nat)} {n t b : Nat} {x : Nat × Pt} (h : badB x.2 (n : Int) = false) (hl : linkB x.2 = false) : unO L n t b x = [(b + x.1 * szN n, ⟨t, (n : Int), x.2⟩)] := by
  cases n <;> (simp only [unO, unE]; rw [h, hl]; rfl)
theorem unO_go {L : List (Nat × Nat)} {n t b : Nat} {x : Nat × Pt} (h : badB x.2 ((n + 1 : Nat) : Int) = false) (hl : linkB x.2 = true) : unO L (n + 1) t b x = (b + x.1 * szN (n + 1), ⟨t, ((n + 1 : Nat) : Int), x.2⟩) :: unL L n x.2.pp (b + x.1 * szN (n + 1)) := by
  simp only [unO, unE, h, hl, if_true, Bool.false_eq_true, if_false]
theorem not_low {p : Pt} (h : badB p ((0 : Nat) : Int) = false) : linkB p = false := by
  have h2 := not_leaf_low h
  rw [link_of h, h2]; rfl
theorem go_eq {L : List (Nat × Nat)} {t n : Nat} {x : Nat × Pt} (hx : x.2 = tE L t x.1) : goB L t x.1 n = (linkB x.2 && !badB x.2 (n : Int)) := by rw [hx]; rfl
theorem split_flat {α β : Type} {f : α → List β} {l pre post : List α} {x : α} (h : l = pre ++ x :: post) : l.flatMap f = pre.flatMap f ++ (f x ++ post.flatMap f) := by
  rw [h, List.flatMap_append, List.flatMap_cons]
/-- the frames to which links among them lead -/
def lnk (l : List (Nat × Spt)) : List Nat := (l.filter fun y => linkB y.2.pt).map fun y => y.2.pt.pp
theorem lnk_app (l m : List (Nat × Spt)) : lnk (l ++ m) = lnk l ++ lnk m := by unfold lnk; rw [List.filter_append, List.map_append]
theorem lnk_flat {α : Type} (f : α → List (Nat × Spt)) : ∀ l : List α, lnk (l.flatMap f) = l.flatMap fun x => lnk (f x)
  | [] => rfl
  | x :: l => by rw [List.flatMap_cons, List.flatMap_cons, lnk_app, lnk_flat f l]
theorem lnk_cons (y : Nat × Spt) (l : List (Nat × Spt)) : lnk (y :: l) = (if linkB y.2.pt then [y.2.pt.pp] else []) ++ lnk l := by
  unfold lnk
  cases h : linkB y.2.pt <;> simp [h]
theorem frs_un (L : List (Nat × Nat)) : ∀ n t b : Nat, frs L n t = t :: lnk (unL L n t b) := by
  have key : ∀ n t b : Nat, (∀ m, n = m + 1 → ∀ u c, frs L m u = u :: lnk (unL L m u c)) → frs L n t = t :: lnk (unL L n t b) := by
    intro n t b ih
    rw [frs_frI, unL_flat, lnk_flat, flat_ent _ (fun i h => by rw [unO_bad (nul_bad h _)]; rfl)]
    unfold frI
    refine congrArg (List.cons t) (flat_congr fun i hi => ?_)
    cases hb : badB (tE L t i) (n : Int)
    · cases hl : linkB (tE L t i)
      · rw [unO_leaf hb hl, lnk_cons]
        unfold goB
        simp [hl, lnk]
      · cases n with
        | zero => rw [not_low hb] at hl; cases hl
        | succ m =>
          rw [unO_go hb hl, lnk_cons]
          have hg : goB L t i (m + 1) = true := by unfold goB; rw [hl, hb]; rfl
          rw [hg, if_pos rfl, show m + 1 - 1 = m from rfl, ih m rfl _ (b + i * szN (m + 1))]
          simp [hl]
    · rw [unO_bad hb]
      unfold goB
      simp [hb, lnk]
  intro n
  induction n with
  | zero => exact fun t b => key 0 t b fun m e => by cases e
  | succ n ih => exact fun t b => key (n + 1) t b fun m e u c => by cases e; exact ih u c
/-- the page of a spot -/
def pgS (y : Nat × Spt) : Pg := ⟨vaN y.1, 4096 * y.2.pt.pp, y.2.lv, permP y.2.pt, y.2.pt.d⟩
def lvs (l : List (Nat × Spt)) : List Pg := (l.filter fun y => leafB y.2.pt).map pgS
theorem lvs_app (l m : List (Nat × Spt)) : lvs (l ++ m) = lvs l ++ lvs m := by unfold lvs; rw [List.filter_append, List.map_append]
theorem lvs_flat {α : Type} (f : α → List (Nat × Spt)) : ∀ l : List α, lvs (l.flatMap f) = l.flatMap fun x => lvs (f x)
  | [] => rfl
  | x :: l => by rw [List.flatMap_cons, List.flatMap_cons, lvs_app, lvs_flat f l]
theorem lvs_cons (y : Nat × Spt) (l : List (Nat × Spt)) : lvs (y :: l) = (if leafB y.2.pt then [pgS y] else []) ++ lvs l := by
  unfold lvs
  cases h : leafB y.2.pt <;> simp [h]
theorem lnk_nl {p : Pt} (h : linkB p = true) : leafB p = false := by
  unfold linkB at h
  unfold leafB
  revert h
  cases p.v <;> cases p.r <;> cases p.x <;> simp
theorem pgK_un (L : List (Nat × Nat)) : ∀ n t b : Nat, pgK L n t b = lvs (unL L n t b) := by
  have key : ∀ n t b : Nat, (∀ m, n = m + 1 → ∀ u c, pgK L m u c = lvs (unL L m u c)) → pgK L n t b = lvs (unL L n t b) := by
    intro n t b ih
    rw [← pgP_end, unL_flat, lvs_flat, flat_ent _ (fun i h => by rw [unO_bad (nul_bad h _)]; rfl)]
    unfold pgP
    refine flat_congr fun i hi => ?_
    cases hb : badB (tE L t i) (n : Int)
    · cases hl : leafB (tE L t i)
      · have hg := go_of hb hl
        have hk : linkB (tE L t i) = true := by unfold goB at hg; rw [Bool.and_eq_true] at hg; exact hg.1
        rw [pgOne_go hb hl]
        cases n with
        | zero => rw [go_zero] at hg; cases hg
        | succ m => rw [unO_go hb hk, lvs_cons, show m + 1 - 1 = m from rfl, ih m rfl]; simp [hl]
      · have hk : linkB (tE L t i) = false := by
          cases q : linkB (tE L t i)
          · rfl
          · rw [lnk_nl q] at hl; cases hl
        rw [pgOne_leaf hb hl, unO_leaf hb hk, lvs_cons]
        simp [hl, lvs, pgS, pgO]
    · rw [pgOne_bad hb, unO_bad hb]
      rfl
  intro n
  induction n with
  | zero => exact fun t b => key 0 t b fun m e => by cases e
  | succ n ih => exact fun t b => key (n + 1) t b fun m e u c => by cases e; exact ih u c
/-- what is so of each spot -/
structure UnIn (S : Nat) (L : List (Nat × Nat)) (y : Nat × Spt) : Prop where
  lt : y.1 < szN 3
  d4 : 4096 ∣ y.1
  tb : y.2.tb < S / 4096
  lv : ∃ k : Nat, k ≤ 2 ∧ y.2.lv = (k : Int)
  pt : ∃ i, i < 512 ∧ y.2.pt = tE L y.2.tb i
theorem un_in {S : Nat} {L : List (Nat × Nat)} : ∀ {n t b : Nat}, n ≤ 2 → TreeOk S L n t → szN (n + 1) ∣ b → b + szN (n + 1) ≤ szN 3 → ∀ y ∈ unL L n t b, UnIn S L y := by
  have key : ∀ n t b : Nat, n ≤ 2 → TreeOk S L n t → szN (n + 1) ∣ b → b + szN (n + 1) ≤ szN 3 → (∀ m, n = m + 1 → ∀ u c, TreeOk S L m u → szN (m + 1) ∣ c → c + szN (m + 1) ≤ szN 3 → ∀ y ∈ unL L m u c, UnIn S L y) → ∀ y ∈ unL L n t b, UnIn S L y := by
    intro n t b hn hT hd hl ih y hy
    rw [unL_flat] at hy
    obtain ⟨x, hx, hy⟩ := List.mem_flatMap.1 hy
    obtain ⟨hx1, hx2, -⟩ := entP_mem hx
    have hb := base_in hd hl hx1
    have hz := szN_pos n
    have own : UnIn S L (b + x.1 * szN n, ⟨t, (n : Int), x.2⟩) := ⟨by have := hb.lt; show b + x.1 * szN n < _; omega, hb.d4, hT.top, ⟨n, hn, rfl⟩, ⟨x.1, hx1, hx2⟩⟩
    cases hbad : badB x.2 (n : Int)
    · cases hlk : linkB x.2
      · rw [unO_leaf hbad hlk] at hy
        rw [List.mem_singleton.1 hy]
        exact own
      · cases n with
        | zero => rw [not_low hbad] at hlk; cases hlk
        | succ m =>
          rw [unO_go hbad hlk] at hy
          have hg : goB L t x.1 (m + 1) = true := by rw [go_eq hx2, hlk, hbad]; rfl
          rcases List.mem_cons.1 hy with rfl | hy
          · exact own
          · rw [hx2] at hy
            exact ih m rfl _ _ (hT.child hx1 hg).1 hb.dv hb.lt y hy
    · rw [unO_bad hbad] at hy
      cases hy
  intro n
  induction n with
  | zero => exact fun {t b} h1 h2 h3 h4 => key 0 t b h1 h2 h3 h4 fun m e => by cases e
  | succ n ih => exact fun {t b} h1 h2 h3 h4 => key (n + 1) t b h1 h2 h3 h4 fun m e u c k1 k2 k3 => by cases e; exact ih (by omega) k1 k2 k3
theorem lnk_few {S : Nat} {L : List (Nat × Nat)} {n t b : Nat} (hT : TreeOk S L n t) {pre post : List (Nat × Spt)} (h : unL L n t b = pre ++ post) : (lnk pre).length ≤ 63 := by
  have e := frs_un L n t b
  rw [h, lnk_app] at e
  have h1 : (frs L n t).length ≤ 64 := by unfold frs; rw [List.length_map]; exact hT.le
  rw [e] at h1
  simp only [List.length_cons, List.length_append] at h1
  omega
theorem lvs_few {S : Nat} {L : List (Nat × Nat)} {n t b : Nat} (hT : TreeOk S L n t) {pre post : List (Nat × Spt)} (h : unL L n t b = pre ++ post) : (lvs pre).length ≤ 32768 := by
  have e := pgK_few hT b
  rw [pgK_un, h, lvs_app, List.length_append] at e
  omega
attribute [irreducible] entP unL unO unE lnk lvs
end Go.Proofs.YtcllbidhjggjiaaDoor
