/- Layer 20, as plain values: a tree with a link to a fresh table more. No program. -/
import Derived.Test.YticbjiddbjgikaaDoorMtabe
import Derived.Test.YticbjiddbjgikaaDoorLaw19a
import Derived.Test.YticbjiddbjgikaaDoorGrtac
import Derived.Test.YticbjiddbjgikaaDoorGpoo
namespace Go.Proofs.YticbjiddbjgikaaDoor
set_option linter.unusedVariables false
set_option linter.unusedSimpArgs false

theorem flat_more {α β : Type} {f g : α → List β} {y : List β} {k : α} : ∀ {l : List α}, l.Nodup → k ∈ l → (∀ i ∈ l, i ≠ k → g i = f i) → (g k).Perm (y ++ f k) → (l.flatMap g).Perm (y ++ l.flatMap f)
  | [], _, hk, _, _ => by cases hk
  | x :: l, hn, hk, hs, hp => by
    obtain ⟨h1, h2⟩ := List.nodup_cons.1 hn
    rw [List.flatMap_cons, List.flatMap_cons]
    by_cases e : x = k
    · subst e
      have hc : l.flatMap g = l.flatMap f := flat_congr fun i hi => hs i (List.mem_cons_of_mem _ hi) fun q => h1 (q ▸ hi)
      rw [hc, ← List.append_assoc]
      exact hp.append_right _
    · have hk2 : k ∈ l := by
        rcases List.mem_cons.1 hk with q | q
        · exact absurd q.symm e
        · exact q
      rw [hs x List.mem_cons_self e]
      have ih := flat_more h2 hk2 (fun i hi => hs i (List.mem_cons_of_mem _ hi)) hp
      refine (ih.append_left (f x)).trans ?_
      rw [← List.append_assoc, ← List.append_assoc]
      exact List.perm_append_comm.append_right _
theorem flat_disj {α β : Type} {f : α → List β} : ∀ {l : List α}, (l.flatMap f).Nodup → ∀ {i k : α}, i ∈ l → k ∈ l → i ≠ k → ∀ {x : β}, x ∈ f i → x ∉ f k
  | [], _, _, _, hi, _, _, _, _ => by cases hi
  | y :: l, hn, i, k, hi, hk, hne, x, hx => by
    rw [List.flatMap_cons] at hn
    obtain ⟨-, h2, h3⟩ := List.nodup_append.1 hn
    rcases List.mem_cons.1 hi with e1 | hi1
    · rcases List.mem_cons.1 hk with e2 | hk1
      · exact absurd (e1.trans e2.symm) hne
      · subst e1
        exact fun q => h3 x hx x (List.mem_flatMap.2 ⟨k, hk1, q⟩) rfl
    · rcases List.mem_cons.1 hk with e2 | hk1
      · subst e2
        exact fun q => h3 x q x (List.mem_flatMap.2 ⟨i, hi1, hx⟩) rfl
      · exact flat_disj h2 hi1 hk1 hne hx
/-- a link to a table f, whose entries lead nowhere, is written at (s, j), where nothing led on -/
structure LinkAt (L K : List (Nat × Nat)) (s j l f : Nat) : Prop where
  lt : j < 512
  old : goB L s j (l + 1) = false
  new : goB K s j (l + 1) = true
  pp : (tE K s j).pp = f
  no : ∀ i, i < 512 → goB K f i l = false
  same : ∀ t i, i < 512 → t ≠ f → ¬ (t = s ∧ i = j) → tE K t i = tE L t i
  ne : f ≠ s
section
variable {L K : List (Nat × Nat)} {s j l f : Nat}
theorem LinkAt.away (h : LinkAt L K s j l f) {n t : Nat} (hx : ∀ x ∈ tabs L n t, x.1 ≠ f ∧ x.1 ≠ s) : SameAt L K n t := fun x hm i hi => h.same x.1 i hi (hx x hm).1 fun q => (hx x hm).2 q.1
theorem LinkAt.leaf (h : LinkAt L K s j l f) : tabs K l f = [(f, l)] := by
  have hn := h.no
  clear h
  cases l with
  | zero => rfl
  | succ m =>
    rw [tabs]
    refine congrArg (List.cons (f, m + 1)) ?_
    rw [List.flatMap_eq_nil_iff]
    intro i hi
    rw [hn i (List.mem_range.1 hi)]
    rfl
/-- what is so of a tree whose tables are met once, and none of them is f -/
structure TreeF (L : List (Nat × Nat)) (f n t : Nat) : Prop where
  nd : ((tabs L n t).map (·.1)).Nodup
  nf : ∀ x ∈ tabs L n t, x.1 ≠ f
theorem TreeF.part {n t : Nat} (h : TreeF L f (n + 1) t) : ((List.range 512).flatMap fun i => ((if goB L t i (n + 1) then tabs L n (tE L t i).pp else []).map (·.1))).Nodup ∧ ∀ i, i < 512 → goB L t i (n + 1) = true → ∀ x ∈ tabs L n (tE L t i).pp, x.1 ≠ t := by
  have h1 := h.nd
  rw [tabs, List.map_cons, List.nodup_cons, List.map_flatMap] at h1
  refine ⟨h1.2, fun i hi hg x hx e => h1.1 (List.mem_flatMap.2 ⟨i, List.mem_range.2 hi, List.mem_map.2 ⟨x, ?_, e⟩⟩)⟩
  rw [if_pos hg]; exact hx
theorem TreeF.child {n t i : Nat} (h : TreeF L f (n + 1) t) (hi : i < 512) (hg : goB L t i (n + 1) = true) : TreeF L f n (tE L t i).pp := by
  refine ⟨?_, fun x hx => h.nf x (tabs_child hi hg hx)⟩
  have := nodup_flat h.part.1 i (List.mem_range.2 hi)
  rwa [if_pos hg] at this
theorem TreeF.disj {n t i k : Nat} (h : TreeF L f (n + 1) t) (hi : i < 512) (hk : k < 512) (hne : i ≠ k) (hg : goB L t i (n + 1) = true) (hgk : goB L t k (n + 1) = true) {x y : Nat × Nat} (hx : x ∈ tabs L n (tE L t i).pp) (hy : y ∈ tabs L n (tE L t k).pp) : x.1 ≠ y.1 := fun e => by
  have := flat_disj h.part.1 (List.mem_range.2 hi) (List.mem_range.2 hk) hne (x := x.1) (by rw [if_pos hg]; exact List.mem_map.2 ⟨x, hx, rfl⟩)
  rw [if_pos hgk] at this
  exact this (List.mem_map.2 ⟨y, hy, e.symm⟩)
/-- **its tables are those that there were, and f** -/
theorem LinkAt.tab (h : LinkAt L K s j l f) : ∀ {n t : Nat}, TreeF L f n t → (s, l + 1) ∈ tabs L n t → (tabs K n t).Perm ((f, l) :: tabs L n t)
  | 0, t, hT, hs => by
    rw [tabs] at hs
    have := List.mem_singleton.1 hs
    injection this with _ e
    cases e
  | n + 1, t, hT, hs => by
    have hp := hT.part.2
    have htf : t ≠ f := hT.nf (t, n + 1) (tabs_top L (n + 1) t)
    have hfl : ∀ {A B : List (Nat × Nat)}, A.Perm ([(f, l)] ++ B) → ((t, n + 1) :: A).Perm ((f, l) :: (t, n + 1) :: B) := fun q => (q.cons _).trans (List.Perm.swap _ _ _)
    rcases tabs_cases hs with e | ⟨i0, hi0, hg0, hs0⟩
    · injection e with e1 e2
      injection e2 with e2
      subst e1
      subst e2
      rw [tabs, tabs]
      refine hfl (flat_more List.nodup_range (List.mem_range.2 h.lt) (fun i hi hne => ?_) ?_)
      · have hi := List.mem_range.1 hi
        have he := h.same s i hi htf fun q => hne q.2
        have hgk : goB K s i (l + 1) = goB L s i (l + 1) := by unfold goB; rw [he]
        rw [hgk, he]
        split
        · rename_i hg
          refine (h.away fun x hx => ⟨(hT.child hi hg).nf x hx, hp i hi hg x hx⟩).tab
        · rfl
      · rw [h.new, h.old, h.pp, if_pos rfl, h.leaf]
        simp
    · have hts : t ≠ s := fun e => hp i0 hi0 hg0 _ hs0 e.symm
      rw [tabs, tabs]
      refine hfl (flat_more List.nodup_range (List.mem_range.2 hi0) (fun i hi hne => ?_) ?_)
      · have hi := List.mem_range.1 hi
        have he := h.same t i hi htf fun q => hts q.1
        have hgk : goB K t i (n + 1) = goB L t i (n + 1) := by unfold goB; rw [he]
        rw [hgk, he]
        split
        · rename_i hg
          refine (h.away fun x hx => ⟨(hT.child hi hg).nf x hx, hT.disj hi hi0 hne hg hg0 hx hs0⟩).tab
        · rfl
      · have he := h.same t i0 hi0 htf fun q => hts q.1
        have hgk : goB K t i0 (n + 1) = goB L t i0 (n + 1) := by unfold goB; rw [he]
        rw [hgk, he, hg0, if_pos rfl, if_pos rfl]
        exact h.tab (hT.child hi0 hg0) hs0
theorem LinkAt.stop (h : LinkAt L K s j l f) (a w : Nat) : reachT K a w l f = (f, l) := by
  have hn := h.no
  clear h
  cases l with
  | zero => rfl
  | succ m =>
    rw [reachT, if_neg]
    rintro ⟨-, q⟩
    rw [hn _ (ixN_lt _ _)] at q
    cases q
/-- **where an address' spot is then** -/
theorem LinkAt.reach (h : LinkAt L K s j l f) (a w : Nat) : ∀ {n t : Nat}, TreeF L f n t → (s, l + 1) ∈ tabs L n t → reachT K a w n t = if reachT L a w n t = (s, l + 1) ∧ ixN a (l + 1) = j ∧ w ≤ l then (f, l) else reachT L a w n t
  | 0, t, hT, hs => by
    rw [tabs] at hs
    have := List.mem_singleton.1 hs
    injection this with _ e
    cases e
  | n + 1, t, hT, hs => by
    have hp := hT.part.2
    have htf : t ≠ f := hT.nf (t, n + 1) (tabs_top L (n + 1) t)
    have hi := ixN_lt a (n + 1)
    have nots : ∀ {i : Nat}, i < 512 → goB L t i (n + 1) = true → (∀ x ∈ tabs L n (tE L t i).pp, x.1 ≠ s) → reachT L a w n (tE L t i).pp ≠ (s, l + 1) := fun {i} hi hg hx e => hx (s, l + 1) (by rw [← e]; exact reach_mem L a w n _) rfl
    rcases tabs_cases hs with e | ⟨i0, hi0, hg0, hs0⟩
    · injection e with e1 e2
      injection e2 with e2
      subst e1
      subst e2
      rw [reachT, reachT]
      by_cases hj : ixN a (l + 1) = j
      · rw [hj, h.new, h.old, h.pp]
        have e0 : (if w < l + 1 ∧ false = true then reachT L a w l (tE L s j).pp else (s, l + 1)) = (s, l + 1) := if_neg (by simp)
        rw [e0]
        by_cases hw : w < l + 1
        · rw [if_pos ⟨hw, rfl⟩, if_pos ⟨rfl, rfl, by omega⟩, h.stop]
        · rw [if_neg (fun q => hw q.1), if_neg (fun q => hw (by have := q.2.2; omega))]
      · have he := h.same s (ixN a (l + 1)) hi htf fun q => hj q.2
        have hgk : goB K s (ixN a (l + 1)) (l + 1) = goB L s (ixN a (l + 1)) (l + 1) := by unfold goB; rw [he]
        rw [hgk, he]
        split
        · rename_i hg
          have hx := fun x hx => hp _ hi hg.2 x hx
          rw [if_neg fun q => hj q.2.1]
          exact (h.away fun x hm => ⟨(hT.child hi hg.2).nf x hm, hx x hm⟩).reach a w
        · rw [if_neg fun q => hj q.2.1]
    · have hts : t ≠ s := fun e => hp i0 hi0 hg0 _ hs0 e.symm
      have he := h.same t (ixN a (n + 1)) hi htf fun q => hts q.1
      have hgk : goB K t (ixN a (n + 1)) (n + 1) = goB L t (ixN a (n + 1)) (n + 1) := by unfold goB; rw [he]
      rw [reachT, reachT, hgk, he]
      split
      · rename_i hg
        by_cases hii : ixN a (n + 1) = i0
        · subst hii
          exact h.reach a w (hT.child hi0 hg0) hs0
        · have hx := fun x hx => hT.disj hi hi0 hii hg.2 hg0 (x := x) hx hs0
          rw [if_neg fun q => nots hi hg.2 hx q.1]
          exact (h.away fun x hm => ⟨(hT.child hi hg.2).nf x hm, hx x hm⟩).reach a w
      · rw [if_neg]
        rintro ⟨q, -⟩
        injection q with q
        exact hts q
end
end Go.Proofs.YticbjiddbjgikaaDoor
/- Layer 20, as plain values: what a way down, a split, a pruning make of a memory and a pool; a tree that is fit stays so. No program. -/
namespace Go.Proofs.YticbjiddbjgikaaDoor
set_option linter.unusedVariables false
set_option linter.unusedSimpArgs false

/-- a link's entry -/
def mkL (f : Nat) : Pt := ⟨true, false, false, false, false, false, false, false, 0, f, 0⟩
theorem mkL_may {f : Nat} (h : f < 17592186044416) : mayB (mkL f) = true := by rw [may_iff]; exact ⟨by show (0 : Nat) < 4; omega, h, by show (0 : Nat) < 1024; omega⟩
theorem mkL_ok {f : Nat} (h : f < 17592186044416) : (mkL f).ok := ⟨by show (0 : Nat) < _; omega, by show f < _; omega, by show (0 : Nat) < _; omega⟩
theorem mkL_link (f : Nat) : linkB (mkL f) = true := by unfold linkB mkL; rfl
theorem mkL_bad (f l : Nat) : badB (mkL f) ((l + 1 : Nat) : Int) = false := by
  unfold badB mkL
  have : (((l + 1 : Nat) : Int) == 0) = false := by simp; omega
  rw [this]
  simp
/-- the entries of a leaf's parts -/
def prt (x : Pt) (l i : Nat) : Pt := { x with pp := x.pp + i * (szN (l - 1) / 4096) }
def rowS (f : Nat) (x : Pt) (l k : Nat) : List (Nat × Nat) := (List.range k).map fun i => (512 * f + i, putN (prt x l i))
/-- a frame's words laid among the others -/
def insS (L : List (Nat × Nat)) (f : Nat) (row : List (Nat × Nat)) : List (Nat × Nat) := L.filter (fun c => decide (c.1 < 512 * f)) ++ (row ++ L.filter fun c => !decide (c.1 < 512 * f))
def lnkS (L : List (Nat × Nat)) (s j f : Nat) : List (Nat × Nat) := stS L s j (putN (mkL f))
/-- the memory with a fresh table linked; with a leaf split -/
def frS (L : List (Nat × Nat)) (f s j : Nat) : List (Nat × Nat) := lnkS (clrF L f) s j f
def splS (L : List (Nat × Nat)) (f s j l : Nat) : List (Nat × Nat) := lnkS (insS (clrF L f) f (rowS f (tE L s j) l 512)) s j f
theorem clr_word (L : List (Nat × Nat)) (f r : Nat) : wordL (clrF L f) r = if r / 512 = f then 0 else wordL L r := by
  unfold clrF
  rw [clearL_word (by omega)]
  by_cases h : r / 512 = f
  · rw [if_pos h, if_pos ⟨by omega, by omega⟩]
  · rw [if_neg h, if_neg (by omega)]
theorem st_word {L : List (Nat × Nat)} {s j v : Nat} (hj : j < 512) (hv : v < 18446744073709551616) (r : Nat) : wordL (stS L s j v) r = if r = 512 * s + j then v else wordL L r := by
  unfold stS
  rw [store8_word (by omega) hv, show 8 * (512 * s + j) / 8 = 512 * s + j by omega]
theorem row_word (f : Nat) (x : Pt) (l : Nat) : ∀ k r, k ≤ 512 → wordL (rowS f x l k) r = if 512 * f ≤ r ∧ r < 512 * f + k then putN (prt x l (r - 512 * f)) else 0
  | 0, r, _ => by rw [if_neg (by omega)]; rfl
  | k + 1, r, hk => by
    unfold rowS
    rw [List.range_succ, List.map_append, wordL_append]
    have ih := row_word f x l k r (by omega)
    unfold rowS at ih
    rw [ih]
    simp only [List.map_cons, List.map_nil, wordL]
    by_cases h1 : 512 * f + k = r
    · rw [if_pos h1, if_neg (by omega), if_pos (by omega), show r - 512 * f = k by omega]; omega
    · rw [if_neg h1]
      by_cases h2 : 512 * f ≤ r ∧ r < 512 * f + k
      · rw [if_pos h2, if_pos (by omega)]; omega
      · rw [if_neg h2, if_neg (by omega)]
theorem ins_word {L : List (Nat × Nat)} {f : Nat} {x : Pt} {l : Nat} (r : Nat) : wordL (insS (clrF L f) f (rowS f x l 512)) r = if r / 512 = f then putN (prt x l (r % 512)) else wordL L r := by
  unfold insS
  rw [wordL_append, wordL_append, wordL_filter _ (fun k => decide (k < 512 * f)), wordL_filter _ (fun k => !decide (k < 512 * f)), row_word f x l 512 r (Nat.le_refl _), clr_word]
  have e1 : (512 * f ≤ r ∧ r < 512 * f + 512) = (r / 512 = f) := propext ⟨fun h => by omega, fun h => by omega⟩
  simp only [e1]
  by_cases h : r / 512 = f
  · have e2 : r - 512 * f = r % 512 := by omega
    rw [e2]
    simp [h]
  · simp only [h, if_false]
    by_cases h2 : r < 512 * f
    · simp [h2]
    · simp [h2]
theorem put_leaf {p : Pt} (h : leafB p = true) : putN p ≠ 0 := by
  intro e
  have h1 := put_tb (p := p) (i := 0) (by decide)
  rw [e] at h1
  unfold leafB at h
  simp only [Bool.and_eq_true] at h
  have h2 : ptB p 0 = p.v := by unfold ptB; rfl
  rw [h2, h.1] at h1
  simp at h1
theorem leaf_prt (x : Pt) (l i : Nat) : leafB (prt x l i) = leafB x := by unfold leafB prt; rfl
theorem link_prt (x : Pt) (l i : Nat) : linkB (prt x l i) = linkB x := by unfold linkB prt; rfl
theorem ins_is {n : Nat} {L : List (Nat × Nat)} (h : RL n L) {f l : Nat} {x : Pt} (hl : leafB x = true) (hm : ∀ i, i < 512 → mayB (prt x l i) = true) (hf : 512 * f + 512 ≤ n) : RL n (insS (clrF L f) f (rowS f x l 512)) := by
  have hc : RL n (clrF L f) := clearL_is h (by omega)
  have hout : ∀ c ∈ clrF L f, ¬ c.1 < 512 * f → 512 * f + 512 ≤ c.1 := fun c hm hn => by
    have e := wordL_mem hc c hm
    rw [clr_word] at e
    have h0 := (hc.2 c hm).1
    by_cases q : c.1 / 512 = f
    · rw [if_pos q] at e; exact absurd e.symm h0
    · omega
  unfold insS
  refine ⟨?_, fun c hm2 => ?_⟩
  · rw [List.pairwise_append]
    refine ⟨hc.1.filter _, ?_, ?_⟩
    · rw [List.pairwise_append]
      refine ⟨?_, hc.1.filter _, ?_⟩
      · unfold rowS
        rw [List.pairwise_map]
        exact List.pairwise_lt_range.imp fun q => by show 512 * f + _ < 512 * f + _; omega
      · intro a ha b hb
        unfold rowS at ha
        obtain ⟨i, hi, rfl⟩ := List.mem_map.1 ha
        have hi := List.mem_range.1 hi
        obtain ⟨hb1, hb2⟩ := List.mem_filter.1 hb
        have := hout b hb1 (by simpa using hb2)
        show 512 * f + i < b.1
        omega
    · intro a ha b hb
      obtain ⟨ha1, ha2⟩ := List.mem_filter.1 ha
      have ha2 : a.1 < 512 * f := by simpa using ha2
      rcases List.mem_append.1 hb with hb | hb
      · unfold rowS at hb
        obtain ⟨i, hi, rfl⟩ := List.mem_map.1 hb
        show a.1 < 512 * f + i
        omega
      · obtain ⟨hb1, hb2⟩ := List.mem_filter.1 hb
        have := hout b hb1 (by simpa using hb2)
        omega
  · rcases List.mem_append.1 hm2 with h1 | h1
    · exact hc.2 c (List.mem_filter.1 h1).1
    · rcases List.mem_append.1 h1 with h1 | h1
      · unfold rowS at h1
        obtain ⟨i, hi, rfl⟩ := List.mem_map.1 h1
        have hi := List.mem_range.1 hi
        exact ⟨put_leaf (by rw [leaf_prt]; exact hl), put_lt (hm i hi), by show 512 * f + i < n; omega⟩
      · exact hc.2 c (List.mem_filter.1 h1).1
theorem ins_len (L : List (Nat × Nat)) (f : Nat) (x : Pt) (l : Nat) : (insS (clrF L f) f (rowS f x l 512)).length ≤ L.length + 512 := by
  unfold insS
  have h1 : (clrF L f).length ≤ L.length := by unfold clrF; exact cutL_len (by omega) []
  have h2 : ∀ (l : List (Nat × Nat)) (p : Nat × Nat → Bool), (l.filter p).length + (l.filter fun c => !p c).length = l.length := fun l p => by
    induction l with
    | nil => rfl
    | cons c r ih =>
      cases hp : p c <;> simp [hp] <;> omega
  have h3 := h2 (clrF L f) fun c => decide (c.1 < 512 * f)
  rw [List.length_append, List.length_append]
  unfold rowS
  rw [List.length_map, List.length_range]
  omega
end Go.Proofs.YticbjiddbjgikaaDoor
/- Layer 20, as plain values: trees that are fit; a fresh table linked, a leaf split: they stay so. No program. -/
namespace Go.Proofs.YticbjiddbjgikaaDoor
set_option linter.unusedVariables false
set_option linter.unusedSimpArgs false

theorem isB_take {P M F : Nat} (hM : M ≤ 64) (hF : F < 2 ^ M) (h0 : F ≠ 0) (x : Nat) : isB P M (takeF F) x = (isB P M F x || decide (x = P + lowN' F)) := by
  have hF2 : F < 2 ^ 64 := Nat.lt_of_lt_of_le hF (Nat.pow_le_pow_right (by decide) hM)
  have hl := low_top h0 hM hF
  unfold isB
  rw [take_def, tb_bitN hF2]
  by_cases e : x = P + lowN' F
  · subst e
    rw [show P + lowN' F - P = lowN' F by omega, if_pos ⟨rfl, by omega⟩]
    simp [hl]
  · by_cases hx : P ≤ x
    · rw [if_neg fun q => e (by omega)]
      simp [e]
    · simp [hx, e]
theorem isB_low {P M F : Nat} (hM : M ≤ 64) (hF : F < 2 ^ M) (h0 : F ≠ 0) : isB P M F (P + lowN' F) = false := by
  have hF2 : F < 2 ^ 64 := Nat.lt_of_lt_of_le hF (Nat.pow_le_pow_right (by decide) hM)
  unfold isB
  rw [show P + lowN' F - P = lowN' F by omega, (low_spec h0 hF2).2.1]
  simp
/-- a tree that is fit: right, clean, and of the pool -/
structure Fit (S P M F n t : Nat) (L : List (Nat × Nat)) : Prop where
  rl : RL (S / 8) L
  tree : TreeOk S L n t
  cl : ∀ x ∈ tabs L n t, ∀ i, i < 512 → wordL L (512 * x.1 + i) ≠ 0 → badB (tE L x.1 i) (x.2 : Int) = false
  inp : ∀ x ∈ tabs L n t, x.1 ≠ t → isB P M F x.1 = true
  top : P ≤ t → t < P + M → isB P M F t = true
section
variable {S P M F n t : Nat} {L K : List (Nat × Nat)} {s j l f : Nat}
theorem Fit.fresh (h : Fit S P M F n t L) (hM : M ≤ 64) (hF : F < 2 ^ M) (h0 : F ≠ 0) (hsz : (P + M) * 4096 ≤ S) : TreeF L (P + lowN' F) n t ∧ P + lowN' F < S / 4096 := by
  have hl := low_top h0 hM hF
  have hb := isB_low (P := P) hM hF h0
  refine ⟨⟨h.tree.nd, fun x hx e => ?_⟩, by omega⟩
  by_cases hxt : x.1 = t
  · have := h.top (by omega) (by omega)
    rw [← hxt, e, hb] at this
    cases this
  · have := h.inp x hx hxt
    rw [e, hb] at this
    cases this
theorem Fit.link (h : Fit S P M F n t L) (hM : M ≤ 64) (hF : F < 2 ^ M) (h0 : F ≠ 0) (hsz : (P + M) * 4096 ≤ S) (hf : P + lowN' F = f) (hs : (s, l + 1) ∈ tabs L n t) (hL : LinkAt L K s j l f) (hK : RL (S / 8) K)
    (hw : ∀ u i, i < 512 → u ≠ f → ¬ (u = s ∧ i = j) → wordL K (512 * u + i) = wordL L (512 * u + i)) (hcf : ∀ i, i < 512 → wordL K (512 * f + i) ≠ 0 → badB (tE K f i) (l : Int) = false)
    (hb : badB (tE K s j) ((l + 1 : Nat) : Int) = false) (hfew : (tabs L n t).length ≤ 63) : Fit S P M (takeF F) n t K ∧ (tabs K n t).length = (tabs L n t).length + 1 := by
  obtain ⟨hTF, hlt⟩ := h.fresh hM hF h0 hsz
  rw [hf] at hTF hlt
  have hp := hL.tab hTF hs
  have hmem : ∀ x, x ∈ tabs K n t ↔ x = (f, l) ∨ x ∈ tabs L n t := fun x => by rw [hp.mem_iff, List.mem_cons]
  have hft : f ≠ t := fun e => hTF.nf (t, n) (tabs_top L n t) e.symm
  refine ⟨⟨hK, ⟨fun x hx => ?_, ?_, ?_⟩, fun x hx i hi hne => ?_, fun x hx hxt => ?_, fun h1 h2 => ?_⟩, ?_⟩
  · rcases (hmem x).1 hx with rfl | hx
    · exact hlt
    · exact h.tree.lt x hx
  · rw [(hp.map (·.1)).nodup_iff, List.map_cons, List.nodup_cons]
    refine ⟨fun q => ?_, h.tree.nd⟩
    obtain ⟨x, hx, e⟩ := List.mem_map.1 q
    exact hTF.nf x hx e
  · rw [hp.length_eq, List.length_cons]; omega
  · rcases (hmem x).1 hx with rfl | hx
    · exact hcf i hi hne
    · by_cases q : x.1 = s ∧ i = j
      · have e := h.tree.level hx hs q.1
        rw [e, q.2]
        exact hb
      · have hxf := hTF.nf x hx
        rw [hL.same x.1 i hi hxf q]
        exact h.cl x hx i hi (by rwa [hw x.1 i hi hxf q] at hne)
  · rw [isB_take hM hF h0]
    rcases (hmem x).1 hx with rfl | hx
    · simp [hf]
    · rw [h.inp x hx hxt]; rfl
  · rw [isB_take hM hF h0, h.top h1 h2]; rfl
  · rw [hp.length_eq, List.length_cons]
/-- a memory whose words are those of L, but a link at (s, j), and g's in the frame f -/
def Laid (L K : List (Nat × Nat)) (s j f : Nat) (g : Nat → Nat) : Prop := ∀ r, wordL K r = if r = 512 * s + j then putN (mkL f) else if r / 512 = f then g (r % 512) else wordL L r
theorem Laid.at_ {g : Nat → Nat} (h : Laid L K s j f g) : wordL K (512 * s + j) = putN (mkL f) := by rw [h, if_pos rfl]
theorem Laid.in_ {g : Nat → Nat} (h : Laid L K s j f g) (hj : j < 512) (hne : f ≠ s) {i : Nat} (hi : i < 512) : wordL K (512 * f + i) = g i := by
  rw [h, if_neg (by omega), if_pos (by omega), show (512 * f + i) % 512 = i by omega]
theorem Laid.out {g : Nat → Nat} (h : Laid L K s j f g) (hj : j < 512) {u i : Nat} (hi : i < 512) (hu : u ≠ f) (hn : ¬ (u = s ∧ i = j)) : wordL K (512 * u + i) = wordL L (512 * u + i) := by
  rw [h, if_neg (by omega), if_neg (by omega)]
theorem Laid.link {g : Nat → Nat} (h : Laid L K s j f g) (hj : j < 512) (hne : f ≠ s) (hf : f < 17592186044416) (hold : goB L s j (l + 1) = false) (hno : ∀ i, i < 512 → linkB (getP (g i)) = false) : LinkAt L K s j l f := by
  have e1 : tE K s j = mkL f := by unfold tE; rw [h.at_, get_put (mkL_may hf)]
  refine ⟨hj, hold, ?_, by rw [e1]; rfl, fun i hi => ?_, fun u i hi hu hn => ?_, hne⟩
  · unfold goB
    rw [e1, mkL_link, mkL_bad]; rfl
  · unfold goB tE
    rw [h.in_ hj hne hi, hno i hi]; rfl
  · unfold tE
    rw [h.out hj hi hu hn]
theorem fr_laid (hj : j < 512) (hf : f < 17592186044416) : Laid L (frS L f s j) s j f fun _ => 0 := fun r => by
  unfold frS lnkS
  rw [st_word hj (put_lt (mkL_may hf)), clr_word]
theorem spl_laid (hj : j < 512) (hf : f < 17592186044416) : Laid L (splS L f s j l) s j f fun i => putN (prt (tE L s j) l i) := fun r => by
  unfold splS lnkS
  rw [st_word hj (put_lt (mkL_may hf)), ins_word]
theorem nul_link : linkB (getP 0) = false := by unfold linkB getP; rfl
end
end Go.Proofs.YticbjiddbjgikaaDoor
/- Layer 20, as plain values: the way down, splits, pruning. No program. -/
namespace Go.Proofs.YticbjiddbjgikaaDoor
set_option linter.unusedVariables false
set_option linter.unusedSimpArgs false

/-- the pool's numbers -/
structure PoolK (S P M : Nat) : Prop where
  p : P ≤ 268435456
  m : M ≤ 64
  sz : (P + M) * 4096 ≤ S
  s8 : S % 4096 = 0
  s40 : S ≤ 1099511627776
section
variable {S P M F n t : Nat} {L K : List (Nat × Nat)} {s j l f : Nat}
theorem Fit.fresh_fit (h : Fit S P M F n t L) (k : PoolK S P M) (hF : F < 2 ^ M) (h0 : F ≠ 0) (hs : (s, l + 1) ∈ tabs L n t) (hj : j < 512) (hv : linkB (tE L s j) = false) (hfew : (tabs L n t).length ≤ 63) :
    Fit S P M (takeF F) n t (frS L (P + lowN' F) s j) ∧ (tabs (frS L (P + lowN' F) s j) n t).length = (tabs L n t).length + 1 ∧ LinkAt L (frS L (P + lowN' F) s j) s j l (P + lowN' F) := by
  obtain ⟨hTF, hlt⟩ := h.fresh k.m hF h0 k.sz
  have k40 := k.s40
  have hne : P + lowN' F ≠ s := fun e => hTF.nf _ hs e.symm
  have hst := h.tree.lt _ hs
  simp only at hst
  have hf44 : P + lowN' F < 17592186044416 := by omega
  have hl := fr_laid (L := L) (s := s) hj hf44
  have hlk : LinkAt L (frS L (P + lowN' F) s j) s j l (P + lowN' F) := hl.link hj hne hf44 (by unfold goB; rw [hv]; rfl) fun i hi => nul_link
  have hK : RL (S / 8) (frS L (P + lowN' F) s j) := by
    unfold frS lnkS stS clrF
    exact storeL_is (clearL_is h.rl (by omega)) (by omega) _ _
  have h2 := h.link k.m hF h0 k.sz rfl hs hlk hK (fun u i hi hu hn => hl.out hj hi hu hn) (fun i hi q => absurd (hl.in_ hj hne hi) q) ?_ hfew
  · exact ⟨h2.1, h2.2, hlk⟩
  · have e1 : tE (frS L (P + lowN' F) s j) s j = mkL (P + lowN' F) := by unfold tE; rw [hl.at_, get_put (mkL_may hf44)]
    rw [e1, mkL_bad]
theorem many_szN (l : Nat) (h : l ≤ 2) : manyN (l : Int) = szN l / 4096 := by
  rcases (by omega : l = 0 ∨ l = 1 ∨ l = 2) with rfl | rfl | rfl <;> rfl
theorem bad_leaf {x : Pt} {l : Nat} (h : badB x (l : Int) = false) (hl : leafB x = true) : x.pp % manyN (l : Int) = 0 ∧ x.hi = 0 ∧ (x.w = true → x.r = true) := by
  unfold badB at h
  unfold leafB at hl
  simp only [Bool.and_eq_true] at hl
  rw [hl.1, hl.2] at h
  simp only [Bool.not_true, Bool.false_or, if_true, Bool.or_eq_false_iff, Bool.not_eq_false', decide_eq_true_eq, Bool.and_eq_false_iff] at h
  refine ⟨h.2, h.1.2, fun hw => ?_⟩
  rcases h.1.1 with q | q
  · rw [hw] at q; cases q
  · exact q
/-- the parts of a leaf -/
structure Parts (x : Pt) (l : Nat) : Prop where
  pp : ∀ i, i < 512 → (prt x (l + 1) i).pp < 17592186044416
  bad : ∀ i, i < 512 → badB (prt x (l + 1) i) (l : Int) = false
theorem parts_of {x : Pt} {l : Nat} (hl2 : l + 1 ≤ 2) (hb : badB x ((l + 1 : Nat) : Int) = false) (hl : leafB x = true) (hp : x.pp < 17592186044416) : Parts x l := by
  obtain ⟨h1, h2, h3⟩ := bad_leaf hb hl
  have hsz : szN (l + 1 - 1) / 4096 = manyN (l : Int) := (many_szN l (by omega)).symm
  have hv : x.v = true := by unfold leafB at hl; simp only [Bool.and_eq_true] at hl; exact hl.1
  have hx : (x.r || x.x) = true := by unfold leafB at hl; simp only [Bool.and_eq_true] at hl; exact hl.2
  refine ⟨fun i hi => ?_, fun i hi => ?_⟩
  · show x.pp + i * (szN (l + 1 - 1) / 4096) < _
    rw [hsz]
    rcases (by omega : l = 0 ∨ l = 1) with rfl | rfl
    · have e : manyN ((0 : Nat) : Int) = 1 := rfl
      have e1 : manyN ((0 + 1 : Nat) : Int) = 512 := rfl
      rw [e]
      rw [e1] at h1
      omega
    · have e : manyN ((1 : Nat) : Int) = 512 := rfl
      have e1 : manyN ((1 + 1 : Nat) : Int) = 262144 := rfl
      rw [e]
      rw [e1] at h1
      omega
  · have hq : (x.pp + i * manyN (l : Int)) % manyN (l : Int) = 0 := by
      rcases (by omega : l = 0 ∨ l = 1) with rfl | rfl
      · have e : manyN ((0 : Nat) : Int) = 1 := rfl
        rw [e]; omega
      · have e : manyN ((1 : Nat) : Int) = 512 := rfl
        have e1 : manyN ((1 + 1 : Nat) : Int) = 262144 := rfl
        rw [e]
        rw [e1] at h1
        omega
    unfold badB prt
    simp only [hsz, hv, hx, h2, hq]
    cases hw : x.w
    · simp
    · rw [h3 hw]; simp
theorem Parts.may {x : Pt} {l : Nat} (h : Parts x l) (hr : x.rs < 4) (hh : x.hi < 1024) : ∀ i, i < 512 → mayB (prt x (l + 1) i) = true := fun i hi => by rw [may_iff]; exact ⟨hr, h.pp i hi, hh⟩
theorem Fit.split_fit (h : Fit S P M F n t L) (k : PoolK S P M) (hn : n ≤ 2) (hF : F < 2 ^ M) (h0 : F ≠ 0) (hs : (s, l + 1) ∈ tabs L n t) (hj : j < 512) (hv : leafB (tE L s j) = true) (hfew : (tabs L n t).length ≤ 63) :
    Fit S P M (takeF F) n t (splS L (P + lowN' F) s j (l + 1)) ∧ (tabs (splS L (P + lowN' F) s j (l + 1)) n t).length = (tabs L n t).length + 1 ∧ LinkAt L (splS L (P + lowN' F) s j (l + 1)) s j l (P + lowN' F) ∧
      ∀ i, i < 512 → tE (splS L (P + lowN' F) s j (l + 1)) (P + lowN' F) i = prt (tE L s j) (l + 1) i := by
  obtain ⟨hTF, hlt⟩ := h.fresh k.m hF h0 k.sz
  have k40 := k.s40
  have hne : P + lowN' F ≠ s := fun e => hTF.nf _ hs e.symm
  have hst := h.tree.lt _ hs
  have hle := tabs_le hs
  simp only at hst hle
  have hf44 : P + lowN' F < 17592186044416 := by omega
  have hw : wordL L (512 * s + j) ≠ 0 := fun e => by
    have : leafB (tE L s j) = false := by unfold tE; rw [e]; unfold leafB getP; rfl
    rw [hv] at this; cases this
  have hb := h.cl _ hs j hj hw
  have hvl := wordL_lt h.rl (512 * s + j)
  have hmy := may_get hvl
  rw [may_iff] at hmy
  have hpt : Parts (tE L s j) l := parts_of (by omega) hb hv hmy.2.1
  have hmay := hpt.may hmy.1 hmy.2.2
  have hl := spl_laid (L := L) (s := s) (l := l + 1) hj hf44
  have hin : ∀ i, i < 512 → tE (splS L (P + lowN' F) s j (l + 1)) (P + lowN' F) i = prt (tE L s j) (l + 1) i := fun i hi => by
    show getP (wordL (splS L (P + lowN' F) s j (l + 1)) (512 * (P + lowN' F) + i)) = _
    rw [hl.in_ hj hne hi]
    exact get_put (hmay i hi)
  have hlk : LinkAt L (splS L (P + lowN' F) s j (l + 1)) s j l (P + lowN' F) := hl.link hj hne hf44 (by
    unfold goB
    have : linkB (tE L s j) = false := by
      cases q : linkB (tE L s j)
      · rfl
      · rw [lnk_nl q] at hv; cases hv
    rw [this]; rfl) fun i hi => by
    rw [get_put (hmay i hi), link_prt]
    cases q : linkB (tE L s j)
    · rfl
    · rw [lnk_nl q] at hv; cases hv
  have hK : RL (S / 8) (splS L (P + lowN' F) s j (l + 1)) := by
    unfold splS lnkS stS
    exact storeL_is (ins_is h.rl hv hmay (by omega)) (by omega) _ _
  have h2 := h.link k.m hF h0 k.sz rfl hs hlk hK (fun u i hi hu hn => hl.out hj hi hu hn) (fun i hi q => by rw [hin i hi]; exact hpt.bad i hi) ?_ hfew
  · exact ⟨h2.1, h2.2, hlk, hin⟩
  · have e1 : tE (splS L (P + lowN' F) s j (l + 1)) s j = mkL (P + lowN' F) := by unfold tE; rw [hl.at_, get_put (mkL_may hf44)]
    rw [e1, mkL_bad]
end
/-- splits down to a level: the error, the memory, the pool's bits -/
def toS (P a k n t : Nat) : Nat → List (Nat × Nat) → Nat → Nat × List (Nat × Nat) × Nat
  | 0, L, F => (0, L, F)
  | g + 1, L, F =>
    if (reachT L a k n t).2 = k ∨ leafB (tE L (reachT L a k n t).1 (ixN a (reachT L a k n t).2)) = false then (0, L, F)
    else if F = 0 then (8, L, F)
    else toS P a k n t g (splS L (P + lowN' F) (reachT L a k n t).1 (ixN a (reachT L a k n t).2) (reachT L a k n t).2) (takeF F)
/-- the way down: the error, the memory, the pool's bits, the table -/
def dnS (P a k : Nat) : Nat → List (Nat × Nat) → Nat → Nat → Nat × List (Nat × Nat) × Nat × Nat
  | 0, L, F, t => (0, L, F, t)
  | l + 1, L, F, t =>
    if l + 1 ≤ k then (0, L, F, t)
    else if leafB (tE L t (ixN a (l + 1))) then (6, L, F, t)
    else if (tE L t (ixN a (l + 1))).v then dnS P a k l L F (tE L t (ixN a (l + 1))).pp
    else if F = 0 then (8, L, F, t)
    else dnS P a k l (frS L (P + lowN' F) t (ixN a (l + 1))) (takeF F) (P + lowN' F)
/-- the way pruned, up from a level -/
def prS (P M a n t : Nat) : Nat → List (Nat × Nat) → Nat → List (Nat × Nat) × Nat
  | 0, L, F => (L, F)
  | w + 1, L, F =>
    let q := prS P M a n t w L F
    let r := reachT q.1 a (w + 1) n t
    let x := tE q.1 r.1 (ixN a r.2)
    if r.2 = w + 1 ∧ linkB x = true ∧ empB q.1 x.pp = true then (stS (clrF q.1 x.pp) r.1 (ixN a r.2) 0, freedN P M q.2 x.pp) else q
section
variable {S P M F n t a k : Nat} {L : List (Nat × Nat)}
theorem reach_same (L : List (Nat × Nat)) (a k : Nat) : ∀ n t : Nat, k < (reachT L a k n t).2 → reachT L a 0 n t = reachT L a k n t
  | 0, t, _ => rfl
  | n + 1, t, h => by
    rw [reachT] at h
    rw [reachT, reachT]
    by_cases hg : goB L t (ixN a (n + 1)) (n + 1) = true
    · by_cases hk : k < n + 1
      · rw [if_pos ⟨hk, hg⟩] at h
        rw [if_pos ⟨by omega, hg⟩, if_pos ⟨hk, hg⟩]
        exact reach_same L a k n _ h
      · rw [if_neg fun q => hk q.1] at h
        exact absurd h hk
    · rw [if_neg fun q => hg q.2, if_neg fun q => hg q.2]
theorem reach_ge (L : List (Nat × Nat)) (a k : Nat) : ∀ n t : Nat, k ≤ n → k ≤ (reachT L a k n t).2
  | 0, t, h => h
  | n + 1, t, h => by
    rw [reachT]
    split
    · rename_i q
      exact reach_ge L a k n _ (by omega)
    · exact h
/-- **one split of To** -/
theorem to_step (h : Fit S P M F n t L) (q : PoolK S P M) (hn : n ≤ 2) (hF : F < 2 ^ M) (h0 : F ≠ 0) (hk : k ≤ n) (hfew : (tabs L n t).length ≤ 63) (h1 : (reachT L a k n t).2 ≠ k) (h2 : leafB (tE L (reachT L a k n t).1 (ixN a (reachT L a k n t).2)) = true) :
    ∃ l, (reachT L a k n t).2 = l + 1 ∧ k ≤ l ∧ Fit S P M (takeF F) n t (splS L (P + lowN' F) (reachT L a k n t).1 (ixN a (l + 1)) (l + 1)) ∧ (tabs (splS L (P + lowN' F) (reachT L a k n t).1 (ixN a (l + 1)) (l + 1)) n t).length = (tabs L n t).length + 1 ∧
      (∀ w, w ≤ l → reachT L a w n t = reachT L a k n t → reachT (splS L (P + lowN' F) (reachT L a k n t).1 (ixN a (l + 1)) (l + 1)) a w n t = (P + lowN' F, l)) ∧ takeF F < 2 ^ M := by
  have hge := reach_ge L a k n t hk
  have hm := reach_mem L a k n t
  obtain ⟨l, hl⟩ : ∃ l, (reachT L a k n t).2 = l + 1 := ⟨(reachT L a k n t).2 - 1, by omega⟩
  rw [hl] at h2
  have hs : ((reachT L a k n t).1, l + 1) ∈ tabs L n t := by rw [← hl]; exact hm
  obtain ⟨f1, f2, f3, f4⟩ := h.split_fit q hn hF h0 hs (ixN_lt _ _) h2 hfew
  obtain ⟨hTF, -⟩ := h.fresh q.m hF h0 q.sz
  refine ⟨l, hl, by omega, f1, f2, fun w hw e => ?_, take_top h0 q.m hF⟩
  rw [f3.reach a w hTF hs, e, if_pos ⟨by rw [← hl], rfl, hw⟩]
/-- what is so behind splits -/
structure ToIs (S P M n t a k g : Nat) (L : List (Nat × Nat)) (F : Nat) : Prop where
  fit : Fit S P M (toS P a k n t g L F).2.2 n t (toS P a k n t g L F).2.1
  few : (tabs (toS P a k n t g L F).2.1 n t).length ≤ (tabs L n t).length + g
  bits : (toS P a k n t g L F).2.2 < 2 ^ M
  len : (toS P a k n t g L F).2.1.length ≤ L.length + 513 * g
  done : (reachT L a k n t).2 ≤ k + g → (toS P a k n t g L F).1 = 0 → (reachT (toS P a k n t g L F).2.1 a k n t).2 = k ∨ leafB (tE (toS P a k n t g L F).2.1 (reachT (toS P a k n t g L F).2.1 a k n t).1 (ixN a (reachT (toS P a k n t g L F).2.1 a k n t).2)) = false
theorem spl_len (L : List (Nat × Nat)) (f s j l : Nat) : (splS L f s j l).length ≤ L.length + 513 := by
  unfold splS lnkS stS
  have h1 := storeL_len (insS (clrF L f) f (rowS f (tE L s j) l 512)) (8 * (512 * s + j)) 8 (putN (mkL f))
  have h2 := ins_len L f (tE L s j) l
  omega
theorem to_is (q : PoolK S P M) (hn : n ≤ 2) (hk : k ≤ n) : ∀ (g : Nat) (L : List (Nat × Nat)) (F : Nat), Fit S P M F n t L → F < 2 ^ M → (tabs L n t).length + g ≤ 64 → ToIs S P M n t a k g L F
  | 0, L, F, h, hF, hfew => ⟨h, Nat.le_refl _, hF, Nat.le_refl _, fun hl _ => .inl (by have := reach_ge L a k n t hk; show (reachT L a k n t).2 = k; omega)⟩
  | g + 1, L, F, h, hF, hfew => by
    by_cases hst : (reachT L a k n t).2 = k ∨ leafB (tE L (reachT L a k n t).1 (ixN a (reachT L a k n t).2)) = false
    · have e : toS P a k n t (g + 1) L F = (0, L, F) := by rw [toS, if_pos hst]
      refine ⟨?_, ?_, ?_, ?_, fun _ _ => ?_⟩ <;> rw [e]
      · exact h
      · show (tabs L n t).length ≤ _; omega
      · exact hF
      · show L.length ≤ _; omega
      · exact hst
    · by_cases h0 : F = 0
      · have e : toS P a k n t (g + 1) L F = (8, L, F) := by rw [toS, if_neg hst, if_pos h0]
        refine ⟨?_, ?_, ?_, ?_, fun _ hz => ?_⟩
        · rw [e]; exact h
        · rw [e]; show (tabs L n t).length ≤ _; omega
        · rw [e]; exact hF
        · rw [e]; show L.length ≤ _; omega
        · rw [e] at hz; cases hz
      · have e : toS P a k n t (g + 1) L F = toS P a k n t g (splS L (P + lowN' F) (reachT L a k n t).1 (ixN a (reachT L a k n t).2) (reachT L a k n t).2) (takeF F) := by rw [toS, if_neg hst, if_neg h0]
        have h2 : leafB (tE L (reachT L a k n t).1 (ixN a (reachT L a k n t).2)) = true := by
          cases hq : leafB (tE L (reachT L a k n t).1 (ixN a (reachT L a k n t).2))
          · exact absurd (.inr hq) hst
          · rfl
        obtain ⟨l, hl, hkl, f1, f2, f3, f4⟩ := to_step h q hn hF h0 hk (by omega) (fun q => hst (.inl q)) h2
        rw [hl] at e
        have ih := to_is q hn hk g _ _ f1 f4 (by omega)
        have hr := f3 k hkl rfl
        have hsl := spl_len L (P + lowN' F) (reachT L a k n t).1 (ixN a (l + 1)) (l + 1)
        refine ⟨?_, ?_, ?_, ?_, fun hq hz => ?_⟩
        · rw [e]; exact ih.fit
        · rw [e]; have := ih.few; omega
        · rw [e]; exact ih.bits
        · rw [e]; have := ih.len; omega
        · rw [e] at hz ⊢
          exact ih.done (by rw [hr]; show l ≤ k + g; omega) hz
theorem to_stop {P a k n t g : Nat} {L : List (Nat × Nat)} {F : Nat} (h : (reachT L a k n t).2 = k ∨ leafB (tE L (reachT L a k n t).1 (ixN a (reachT L a k n t).2)) = false) : toS P a k n t g L F = (0, L, F) := by
  cases g with
  | zero => rfl
  | succ g => rw [toS, if_pos h]
theorem to_go {P a k n t g : Nat} {L : List (Nat × Nat)} {F : Nat} (h : ¬ ((reachT L a k n t).2 = k ∨ leafB (tE L (reachT L a k n t).1 (ixN a (reachT L a k n t).2)) = false)) (h0 : F ≠ 0) :
    toS P a k n t (g + 1) L F = toS P a k n t g (splS L (P + lowN' F) (reachT L a k n t).1 (ixN a (reachT L a k n t).2) (reachT L a k n t).2) (takeF F) := by
  rw [toS, if_neg h, if_neg h0]
theorem to_no {P a k n t g : Nat} {L : List (Nat × Nat)} {F : Nat} (h : ¬ ((reachT L a k n t).2 = k ∨ leafB (tE L (reachT L a k n t).1 (ixN a (reachT L a k n t).2)) = false)) (h0 : F = 0) : toS P a k n t (g + 1) L F = (8, L, F) := by
  rw [toS, if_neg h, if_pos h0]
/-- **split twice: as once** -/
theorem to_twice (q : PoolK S P M) (hn : n ≤ 2) (hk : k ≤ n) (h : Fit S P M F n t L) (hF : F < 2 ^ M) (hfew : (tabs L n t).length + 3 ≤ 64) {L' : List (Nat × Nat)} {F' : Nat} (e : toS P a k n t 3 L F = (0, L', F')) : toS P a k n t 3 L' F' = (0, L', F') := by
  have hi := to_is (a := a) q hn hk 3 L F h hF hfew
  have hd := hi.done (by have := tabs_le (reach_mem L a k n t); omega) (by rw [e])
  rw [e] at hd
  exact to_stop hd
end
end Go.Proofs.YticbjiddbjgikaaDoor
/- Layer 20, as plain values: a link to an empty table taken away: the tree stays fit. No program. -/
namespace Go.Proofs.YticbjiddbjgikaaDoor
set_option linter.unusedVariables false
set_option linter.unusedSimpArgs false

theorem sub_flat {α β : Type} {f g : α → List β} : ∀ {l : List α}, (∀ i ∈ l, (f i).Sublist (g i)) → (l.flatMap f).Sublist (l.flatMap g)
  | [], _ => by simp
  | x :: l, h => by
    rw [List.flatMap_cons, List.flatMap_cons]
    exact (h x List.mem_cons_self).append (sub_flat fun i hi => h i (List.mem_cons_of_mem _ hi))
section
variable {L K : List (Nat × Nat)} {s j l f : Nat}
theorem tabs_next (hj : j < 512) (hg : goB L s j (l + 1) = true) (hf : (tE L s j).pp = f) : ∀ {n t : Nat}, (s, l + 1) ∈ tabs L n t → (f, l) ∈ tabs L n t
  | 0, t, h => by
    rw [tabs] at h
    have := List.mem_singleton.1 h
    injection this with _ e
    cases e
  | n + 1, t, h => by
    rcases tabs_cases h with e | ⟨i0, hi0, hg0, hs0⟩
    · injection e with e1 e2
      injection e2 with e2
      subst e1
      subst e2
      refine tabs_child hj hg ?_
      rw [hf]
      exact tabs_top L l f
    · exact tabs_child hi0 hg0 (tabs_next hj hg hf hs0)
/-- what is so of a tree less an empty table -/
structure LessT (L K : List (Nat × Nat)) (s l f n t : Nat) : Prop where
  sub : (tabs K n t).Sublist (tabs L n t)
  nf : ∀ x ∈ tabs K n t, x.1 ≠ f
  has : (s, l + 1) ∈ tabs K n t
theorem less {S : Nat} (h : LinkAt K L s j l f) : ∀ {n t : Nat}, TreeOk S L n t → (s, l + 1) ∈ tabs L n t → LessT L K s l f n t
  | 0, t, hT, hs => by
    rw [tabs] at hs
    have := List.mem_singleton.1 hs
    injection this with _ e
    cases e
  | n + 1, t, hT, hs => by
    have hF : TreeF L (S / 4096) (n + 1) t := ⟨hT.nd, fun x hx => by have := hT.lt x hx; omega⟩
    have hp := hF.part.2
    have away : ∀ {m u : Nat}, (∀ x ∈ tabs L m u, x.1 ≠ f ∧ x.1 ≠ s) → tabs K m u = tabs L m u := fun {m u} hx => by
      have q : SameAt L K m u := fun x hm i hi => (h.same x.1 i hi (hx x hm).1 fun q => (hx x hm).2 q.1).symm
      exact q.tab
    rcases tabs_cases hs with e | ⟨i0, hi0, hg0, hs0⟩
    · injection e with e1 e2
      injection e2 with e2
      subst e1
      subst e2
      have hfj : (f, l) ∈ tabs L l (tE L s j).pp := by rw [h.pp]; exact tabs_top L l f
      have hch : ∀ i, i < 512 → i ≠ j → goB L s i (l + 1) = true → tabs K l (tE K s i).pp = tabs L l (tE L s i).pp ∧ ∀ x ∈ tabs L l (tE L s i).pp, x.1 ≠ f := fun i hi hne hg => by
        have he := h.same s i hi (fun q => h.ne q.symm) fun q => hne q.2
        have hx : ∀ x ∈ tabs L l (tE L s i).pp, x.1 ≠ f := fun x hx => hF.disj hi h.lt hne hg h.new hx hfj
        rw [← he]
        exact ⟨away fun x hm => ⟨hx x hm, hp i hi hg x hm⟩, hx⟩
      refine ⟨?_, fun x hx => ?_, tabs_top K (l + 1) s⟩
      · rw [tabs, tabs]
        refine List.Sublist.cons_cons _ (sub_flat fun i hi => ?_)
        have hi := List.mem_range.1 hi
        by_cases hne : i = j
        · subst hne
          rw [h.old]
          simp
        · have he := h.same s i hi (fun q => h.ne q.symm) fun q => hne q.2
          have hgk : goB K s i (l + 1) = goB L s i (l + 1) := by unfold goB; rw [he]
          rw [hgk]
          cases hg : goB L s i (l + 1)
          · simp
          · rw [(hch i hi hne hg).1]
            exact List.Sublist.refl _
      · rcases tabs_cases hx with rfl | ⟨i, hi, hg, hm⟩
        · exact fun q => h.ne q.symm
        · by_cases hne : i = j
          · subst hne
            rw [h.old] at hg
            cases hg
          · have he := h.same s i hi (fun q => h.ne q.symm) fun q => hne q.2
            have hgk : goB K s i (l + 1) = goB L s i (l + 1) := by unfold goB; rw [he]
            rw [hgk] at hg
            obtain ⟨q1, q2⟩ := hch i hi hne hg
            rw [q1] at hm
            exact q2 x hm
    · have hts : t ≠ s := fun e => hp i0 hi0 hg0 _ hs0 e.symm
      have hf0 : (f, l) ∈ tabs L n (tE L t i0).pp := tabs_next h.lt h.new h.pp hs0
      have htf : t ≠ f := fun e => hp i0 hi0 hg0 _ hf0 e.symm
      have hE : ∀ i, i < 512 → tE K t i = tE L t i := fun i hi => (h.same t i hi htf fun q => hts q.1).symm
      have hG : ∀ i, i < 512 → goB K t i (n + 1) = goB L t i (n + 1) := fun i hi => by unfold goB; rw [hE i hi]
      have ih := less h (hT.child hi0 hg0).1 hs0
      have hch : ∀ i, i < 512 → i ≠ i0 → goB L t i (n + 1) = true → tabs K n (tE L t i).pp = tabs L n (tE L t i).pp ∧ ∀ x ∈ tabs L n (tE L t i).pp, x.1 ≠ f := fun i hi hne hg => by
        have hx : ∀ x ∈ tabs L n (tE L t i).pp, x.1 ≠ f := fun x hx => hF.disj hi hi0 hne hg hg0 hx hf0
        exact ⟨away fun x hm => ⟨hx x hm, hF.disj hi hi0 hne hg hg0 hm hs0⟩, hx⟩
      refine ⟨?_, fun x hx => ?_, ?_⟩
      · rw [tabs, tabs]
        refine List.Sublist.cons_cons _ (sub_flat fun i hi => ?_)
        have hi := List.mem_range.1 hi
        rw [hG i hi, hE i hi]
        cases hg : goB L t i (n + 1)
        · simp
        · rw [if_pos rfl, if_pos rfl]
          by_cases hne : i = i0
          · subst hne
            exact ih.sub
          · rw [(hch i hi hne hg).1]
            exact List.Sublist.refl _
      · rcases tabs_cases hx with rfl | ⟨i, hi, hg, hm⟩
        · exact htf
        · rw [hG i hi] at hg
          rw [hE i hi] at hm
          by_cases hne : i = i0
          · subst hne
            exact ih.nf x hm
          · obtain ⟨q1, q2⟩ := hch i hi hne hg
            rw [q1] at hm
            exact q2 x hm
      · refine tabs_child hi0 (by rw [hG i0 hi0]; exact hg0) ?_
        rw [hE i0 hi0]
        exact ih.has
end
section
variable {S P M F n t : Nat} {L : List (Nat × Nat)} {s j l f : Nat}
theorem emp_word (h : empB L f = true) {i : Nat} (hi : i < 512) : wordL L (512 * f + i) = 0 := by
  unfold empB at h
  rw [List.all_eq_true] at h
  refine wordL_none fun c hc e => ?_
  have := h c hc
  simp at this
  omega
theorem isB_give (hM : M ≤ 64) (hF : F < 2 ^ M) {x : Nat} (hf : P ≤ f ∧ f < P + M) (hx : x ≠ f) : isB P M (freedN P M F f) x = isB P M F x := by
  have hF2 : F < 2 ^ 64 := Nat.lt_of_lt_of_le hF (Nat.pow_le_pow_right (by decide) hM)
  unfold isB
  rw [freed_in hf.1 hf.2, tb_bitN hF2]
  by_cases h1 : P ≤ x
  · rw [if_neg fun q => hx (by omega)]
  · simp [h1]
/-- what is so behind an empty table is taken out of a tree -/
structure UnlIs (S P M F n t : Nat) (L : List (Nat × Nat)) (s j l f : Nat) : Prop where
  fit : Fit S P M (freedN P M F f) n t (stS (clrF L f) s j 0)
  bits : freedN P M F f < 2 ^ M
  is_ : isB P M F f = true
  few : (tabs (stS (clrF L f) s j 0) n t).length ≤ (tabs L n t).length
  lt : f < S / 4096
  st : s < S / 4096
  len : (stS (clrF L f) s j 0).length ≤ L.length
  ne : f ≠ s
  lk : LinkAt (stS (clrF L f) s j 0) L s j l f
  ls : LessT L (stS (clrF L f) s j 0) s l f n t
theorem Fit.unlink (h : Fit S P M F n t L) (q : PoolK S P M) (hF : F < 2 ^ M) (hs : (s, l + 1) ∈ tabs L n t) (hj : j < 512) (hg : goB L s j (l + 1) = true) (hf : (tE L s j).pp = f) (he : empB L f = true) : UnlIs S P M F n t L s j l f := by
  have hfl := tabs_next hj hg hf hs
  have hlf := h.tree.lt _ hfl
  have hls := h.tree.lt _ hs
  simp only at hlf hls
  have hne : f ≠ s := fun e => by
    have := h.tree.level hfl hs e
    injection this with _ e2
    omega
  have hft : f ≠ t := fun e => by
    have := h.tree.level hfl (tabs_top L n t) e
    injection this with _ e2
    have := tabs_le hs
    simp only at this
    omega
  have hib := h.inp _ hfl hft
  have hin : P ≤ f ∧ f < P + M := by
    unfold isB at hib
    simp only [Bool.and_eq_true, decide_eq_true_eq] at hib
    exact hib.1
  have hw : ∀ r, wordL (stS (clrF L f) s j 0) r = if r = 512 * s + j then 0 else if r / 512 = f then 0 else wordL L r := fun r => by
    rw [st_word hj (by decide), clr_word]
  have hwo : ∀ u i, i < 512 → u ≠ f → ¬ (u = s ∧ i = j) → wordL (stS (clrF L f) s j 0) (512 * u + i) = wordL L (512 * u + i) := fun u i hi hu hn => by
    rw [hw, if_neg (by omega), if_neg (by omega)]
  have hlk : LinkAt (stS (clrF L f) s j 0) L s j l f := ⟨hj, by
      unfold goB tE
      rw [hw, if_pos rfl, nul_link]; rfl, hg, hf, fun i hi => by
      unfold goB tE
      rw [emp_word he hi, nul_link]; rfl, fun u i hi hu hn => by
      unfold tE
      rw [hwo u i hi hu hn], hne⟩
  have hl := less hlk h.tree hs
  have hrl := h.rl
  have hS8 := q.s8
  have hfr : freedN P M F f < 2 ^ M := by rw [freed_in hin.1 hin.2]; exact bit_top q.m hF (by omega) _
  have hlen : (stS (clrF L f) s j 0).length ≤ L.length := by
    unfold stS
    rw [store8_cut (by omega) (by decide), if_pos rfl]
    refine Nat.le_trans (cutL_len (by omega) _) ?_
    unfold clrF
    exact cutL_len (by omega) []
  refine ⟨⟨?_, ⟨fun x hx => h.tree.lt x (hl.sub.subset hx), (hl.sub.map _).nodup h.tree.nd, Nat.le_trans hl.sub.length_le h.tree.le⟩, fun x hx i hi hn => ?_, fun x hx hxt => ?_, fun h1 h2 => ?_⟩, hfr, hib, hl.sub.length_le, hlf, hls, hlen, hne, hlk, hl⟩
  · unfold stS clrF
    exact storeL_is (clearL_is h.rl (by omega)) (by omega) _ _
  · have hxf := hl.nf x hx
    by_cases hq : x.1 = s ∧ i = j
    · rw [hw, if_pos (by rw [hq.1, hq.2])] at hn
      exact absurd rfl hn
    · rw [hwo _ _ hi hxf hq] at hn
      have := h.cl x (hl.sub.subset hx) i hi hn
      unfold tE
      rw [hwo _ _ hi hxf hq]
      exact this
  · rw [isB_give q.m hF hin (hl.nf x hx)]
    exact h.inp x (hl.sub.subset hx) hxt
  · rw [isB_give q.m hF hin fun e => hft e.symm]
    exact h.top h1 h2
theorem clean_go {x : Nat × Nat} (h : Fit S P M F n t L) (hx : x ∈ tabs L n t) {i : Nat} (hi : i < 512) (hl : linkB (tE L x.1 i) = true) : goB L x.1 i x.2 = true := by
  have hw : wordL L (512 * x.1 + i) ≠ 0 := fun e => by
    unfold tE at hl
    rw [e, nul_link] at hl
    cases hl
  unfold goB
  rw [hl, h.cl x hx i hi hw]
  rfl
/-- what is so behind a way is pruned, up from a level -/
structure PrIs (S P M n t : Nat) (L : List (Nat × Nat)) (q : List (Nat × Nat) × Nat) : Prop where
  fit : Fit S P M q.2 n t q.1
  bits : q.2 < 2 ^ M
  len : q.1.length ≤ L.length
  few : (tabs q.1 n t).length ≤ (tabs L n t).length
theorem pr_one {q : List (Nat × Nat) × Nat} {a w : Nat} (k : PoolK S P M) (h : PrIs S P M n t L q) (hr : (reachT q.1 a (w + 1) n t).2 = w + 1) (hl : linkB (tE q.1 (reachT q.1 a (w + 1) n t).1 (ixN a (w + 1))) = true) (he : empB q.1 (tE q.1 (reachT q.1 a (w + 1) n t).1 (ixN a (w + 1))).pp = true) :
    UnlIs S P M q.2 n t q.1 (reachT q.1 a (w + 1) n t).1 (ixN a (w + 1)) w (tE q.1 (reachT q.1 a (w + 1) n t).1 (ixN a (w + 1))).pp := by
  have hs : ((reachT q.1 a (w + 1) n t).1, w + 1) ∈ tabs q.1 n t := by
    have hm := reach_mem q.1 a (w + 1) n t
    generalize reachT q.1 a (w + 1) n t = r at hm hr ⊢
    obtain ⟨r1, r2⟩ := r
    simp only at hr ⊢
    subst hr
    exact hm
  exact h.fit.unlink k h.bits hs (ixN_lt _ _) (clean_go h.fit hs (ixN_lt _ _) hl) rfl he
theorem PrIs.next {q : List (Nat × Nat) × Nat} {s j l f : Nat} (h : PrIs S P M n t L q) (u : UnlIs S P M q.2 n t q.1 s j l f) : PrIs S P M n t L (stS (clrF q.1 f) s j 0, freedN P M q.2 f) :=
  ⟨u.fit, u.bits, Nat.le_trans u.len h.len, Nat.le_trans u.few h.few⟩
theorem pr_is {a : Nat} (k : PoolK S P M) (h : Fit S P M F n t L) (hF : F < 2 ^ M) : ∀ w, PrIs S P M n t L (prS P M a n t w L F)
  | 0 => ⟨h, hF, Nat.le_refl _, Nat.le_refl _⟩
  | w + 1 => by
    have ih := pr_is (a := a) k h hF w
    rw [prS]
    split
    · rename_i c
      obtain ⟨c1, c2, c3⟩ := c
      rw [c1] at c2 c3 ⊢
      exact ih.next (pr_one k ih c1 c2 c3)
    · exact ih
end
end Go.Proofs.YticbjiddbjgikaaDoor
/- Layer 20, as plain values: the way down. No program. -/
namespace Go.Proofs.YticbjiddbjgikaaDoor
set_option linter.unusedVariables false
set_option linter.unusedSimpArgs false

section
variable {S P M F n t : Nat} {L : List (Nat × Nat)} {a k : Nat}
/-- a way down, as far as it is gone: at a table of a level -/
structure DnAt (S P M n t : Nat) (L K : List (Nat × Nat)) (G l u : Nat) : Prop where
  fit : Fit S P M G n t K
  bits : G < 2 ^ M
  at_ : (u, l) ∈ tabs K n t
  few : (tabs K n t).length + l ≤ (tabs L n t).length + n
  len : K.length + l ≤ L.length + n
theorem DnAt.start (h : Fit S P M F n t L) (hF : F < 2 ^ M) : DnAt S P M n t L L F n t := ⟨h, hF, tabs_top L n t, Nat.le_refl _, Nat.le_refl _⟩
theorem dn_end (P a k : Nat) (L : List (Nat × Nat)) (F t : Nat) : dnS P a k k L F t = (0, L, F, t) := by
  cases k with
  | zero => rfl
  | succ k => rw [dnS, if_pos (Nat.le_refl _)]
variable {K : List (Nat × Nat)} {G l u : Nat}
theorem dn_over (hk : k ≤ l) (h : leafB (tE K u (ixN a (l + 1))) = true) : dnS P a k (l + 1) K G u = (6, K, G, u) := by
  rw [dnS, if_neg (by omega), if_pos h]
theorem dn_lack (hk : k ≤ l) (h : leafB (tE K u (ixN a (l + 1))) = false) (hv : (tE K u (ixN a (l + 1))).v = false) : dnS P a k (l + 1) K 0 u = (8, K, 0, u) := by
  rw [dnS, if_neg (by omega), if_neg (by rw [h]; decide), if_neg (by rw [hv]; decide), if_pos rfl]
theorem dn_go (hk : k ≤ l) (h : leafB (tE K u (ixN a (l + 1))) = false) (hv : (tE K u (ixN a (l + 1))).v = true) (d : DnAt S P M n t L K G (l + 1) u) :
    dnS P a k (l + 1) K G u = dnS P a k l K G (tE K u (ixN a (l + 1))).pp ∧ DnAt S P M n t L K G l (tE K u (ixN a (l + 1))).pp := by
  refine ⟨by rw [dnS, if_neg (by omega), if_neg (by rw [h]; decide), if_pos hv], ?_⟩
  have hi := ixN_lt a (l + 1)
  have hw : wordL K (512 * u + ixN a (l + 1)) ≠ 0 := fun e => by
    unfold tE at hv
    rw [e] at hv
    unfold getP at hv
    simp at hv
  have hb := d.fit.cl _ d.at_ _ hi hw
  have hg : goB K u (ixN a (l + 1)) (l + 1) = true := go_of hb h
  have hf := d.few
  have hl := d.len
  exact ⟨d.fit, d.bits, tabs_next hi hg rfl d.at_, by omega, by omega⟩
theorem dn_fresh (q : PoolK S P M) (hk : k ≤ l) (hn : n ≤ 2) (h : leafB (tE K u (ixN a (l + 1))) = false) (hv : (tE K u (ixN a (l + 1))).v = false) (h0 : G ≠ 0) (hfew : (tabs L n t).length ≤ 60) (d : DnAt S P M n t L K G (l + 1) u) :
    dnS P a k (l + 1) K G u = dnS P a k l (frS K (P + lowN' G) u (ixN a (l + 1))) (takeF G) (P + lowN' G) ∧ DnAt S P M n t L (frS K (P + lowN' G) u (ixN a (l + 1))) (takeF G) l (P + lowN' G) ∧ P + lowN' G < S / 4096 := by
  refine ⟨by rw [dnS, if_neg (by omega), if_neg (by rw [h]; decide), if_neg (by rw [hv]; decide), if_neg h0], ?_⟩
  have hi := ixN_lt a (l + 1)
  have hf := d.few
  have hl := d.len
  have hlk : linkB (tE K u (ixN a (l + 1))) = false := by unfold linkB; rw [hv]; rfl
  obtain ⟨f1, f2, f3⟩ := d.fit.fresh_fit q d.bits h0 d.at_ hi hlk (by omega)
  obtain ⟨hTF, hlt⟩ := d.fit.fresh q.m d.bits h0 q.sz
  have hu : (u, l + 1) ∈ tabs (frS K (P + lowN' G) u (ixN a (l + 1))) n t := (f3.tab hTF d.at_).mem_iff.2 (List.mem_cons_of_mem _ d.at_)
  have hlen : (frS K (P + lowN' G) u (ixN a (l + 1))).length ≤ K.length + 1 := by
    unfold frS lnkS stS
    refine Nat.le_trans (storeL_len _ _ _ _) ?_
    have : (clrF K (P + lowN' G)).length ≤ K.length := by unfold clrF; exact cutL_len (by omega) []
    omega
  exact ⟨⟨f1, take_top h0 q.m d.bits, tabs_next hi f3.new f3.pp hu, by omega, by omega⟩, hlt⟩
end
end Go.Proofs.YticbjiddbjgikaaDoor
/- Layer 20, as plain values: splits down to a level, one by one. No program. -/
namespace Go.Proofs.YticbjiddbjgikaaDoor
set_option linter.unusedVariables false
set_option linter.unusedSimpArgs false

theorem take_less {G : Nat} (h0 : G ≠ 0) (hG : G < 2 ^ 64) : popN (takeF G) 64 < popN G 64 := by
  have := pop_take h0 hG
  omega
section
variable {S P M F n t : Nat} {L : List (Nat × Nat)} {a k : Nat}
/-- splits, as far as they are done; g more may come -/
structure ToAt (S P M a k n t : Nat) (L K : List (Nat × Nat)) (G g : Nat) : Prop where
  fit : Fit S P M G n t K
  bits : G < 2 ^ M
  few : (tabs K n t).length + ((reachT K a k n t).2 - k) ≤ 63
  len : K.length + 513 * g ≤ L.length + 513 * 3
  lev : (reachT K a k n t).2 ≤ k + g
theorem ToAt.start (h : Fit S P M F n t L) (hF : F < 2 ^ M) (hn : n ≤ 2) (htab : (tabs L n t).length + ((reachT L a k n t).2 - k) ≤ 63) : ToAt S P M a k n t L L F 3 := ⟨h, hF, htab, Nat.le_refl _, by have := tabs_le (reach_mem L a k n t); omega⟩
variable {K : List (Nat × Nat)} {G g : Nat}
theorem ToAt.some (d : ToAt S P M a k n t L K G g) (hk : k ≤ n) (h1 : (reachT K a k n t).2 ≠ k) : ∃ g', g = g' + 1 := by
  have h2 := d.lev
  have h3 := reach_ge K a k n t hk
  exact ⟨g - 1, by omega⟩
theorem ToAt.next (q : PoolK S P M) (hn : n ≤ 2) (hk : k ≤ n) (d : ToAt S P M a k n t L K G (g + 1)) (h1 : (reachT K a k n t).2 ≠ k) (h2 : leafB (tE K (reachT K a k n t).1 (ixN a (reachT K a k n t).2)) = true) (h0 : G ≠ 0) :
    toS P a k n t (g + 1) K G = toS P a k n t g (splS K (P + lowN' G) (reachT K a k n t).1 (ixN a (reachT K a k n t).2) (reachT K a k n t).2) (takeF G) ∧ ToAt S P M a k n t L (splS K (P + lowN' G) (reachT K a k n t).1 (ixN a (reachT K a k n t).2) (reachT K a k n t).2) (takeF G) g ∧ popN (takeF G) 64 < popN G 64 := by
  have hf := d.few
  have hl := d.len
  have hv := d.lev
  have hge := reach_ge K a k n t hk
  obtain ⟨l, e, hkl, f1, f2, f3, f4⟩ := to_step d.fit q hn d.bits h0 hk (by omega) h1 h2
  have hr := f3 k hkl rfl
  refine ⟨to_go (fun c => ?_) h0, ?_, take_less h0 (Nat.lt_of_lt_of_le d.bits (Nat.pow_le_pow_right (by decide) q.m))⟩
  · rcases c with c | c
    · exact h1 c
    · rw [h2] at c; cases c
  · rw [e]
    have hs := spl_len K (P + lowN' G) (reachT K a k n t).1 (ixN a (l + 1)) (l + 1)
    rw [e] at hf
    exact ⟨f1, f4, by rw [hr]; show _ + (l - k) ≤ 63; omega, by omega, by rw [hr]; show l ≤ k + g; omega⟩
theorem reach_sames (L : List (Nat × Nat)) (a k v : Nat) (hv : v ≤ k) : ∀ n t : Nat, k < (reachT L a k n t).2 → reachT L a v n t = reachT L a k n t
  | 0, t, _ => rfl
  | n + 1, t, h => by
    rw [reachT] at h
    rw [reachT, reachT]
    by_cases hg : goB L t (ixN a (n + 1)) (n + 1) = true
    · by_cases hk : k < n + 1
      · rw [if_pos ⟨hk, hg⟩] at h
        rw [if_pos ⟨by omega, hg⟩, if_pos ⟨hk, hg⟩]
        exact reach_sames L a k v hv n _ h
      · rw [if_neg fun q => hk q.1] at h
        exact absurd h hk
    · rw [if_neg fun q => hg q.2, if_neg fun q => hg q.2]
theorem leaf_of_go {p : Pt} {A : Prop} (h : ¬ (A ∨ leafB p = false)) : leafB p = true := by
  cases hq : leafB p
  · exact absurd (.inr hq) h
  · rfl
theorem to_more2 (q : PoolK S P M) (hn : n ≤ 2) (hk : k ≤ n) : ∀ (g : Nat) (L : List (Nat × Nat)) (F : Nat), Fit S P M F n t L → F < 2 ^ M → (tabs L n t).length + ((reachT L a k n t).2 - k) ≤ 63 → (reachT L a k n t).2 ≤ k + g → toS P a k n t (g + 1) L F = toS P a k n t g L F
  | 0, L, F, h, hF, hfew, hl => to_stop (.inl (by have := reach_ge L a k n t hk; omega))
  | g + 1, L, F, h, hF, hfew, hl => by
    by_cases hst : (reachT L a k n t).2 = k ∨ leafB (tE L (reachT L a k n t).1 (ixN a (reachT L a k n t).2)) = false
    · rw [to_stop hst, to_stop hst]
    · by_cases h0 : F = 0
      · rw [to_no hst h0, to_no hst h0]
      · rw [to_go hst h0, to_go hst h0]
        have hge := reach_ge L a k n t hk
        obtain ⟨l, hl2, hkl, f1, f2, f3, f4⟩ := to_step h q hn hF h0 hk (by omega) (fun q => hst (.inl q)) (leaf_of_go hst)
        rw [hl2] at hfew hl ⊢
        have hr := f3 k hkl rfl
        exact to_more2 q hn hk g _ _ f1 f4 (by rw [hr]; show _ + (l - k) ≤ 63; omega) (by rw [hr]; show l ≤ k + g; omega)
/-- a split down brings a table more and the spot a level down -/
theorem to_room (q : PoolK S P M) (hn : n ≤ 2) (hk : k ≤ n) {v : Nat} (hv : v ≤ k) : ∀ (g : Nat) (L : List (Nat × Nat)) (F : Nat), Fit S P M F n t L → F < 2 ^ M → (tabs L n t).length + ((reachT L a k n t).2 - k) ≤ 63 →
    (tabs (toS P a k n t g L F).2.1 n t).length + (reachT (toS P a k n t g L F).2.1 a v n t).2 ≤ (tabs L n t).length + (reachT L a v n t).2
  | 0, L, F, h, hF, hfew => Nat.le_refl _
  | g + 1, L, F, h, hF, hfew => by
    by_cases hst : (reachT L a k n t).2 = k ∨ leafB (tE L (reachT L a k n t).1 (ixN a (reachT L a k n t).2)) = false
    · rw [to_stop hst]; exact Nat.le_refl _
    · by_cases h0 : F = 0
      · rw [to_no hst h0]; exact Nat.le_refl _
      · rw [to_go hst h0]
        have hge := reach_ge L a k n t hk
        obtain ⟨l, hl2, hkl, f1, f2, f3, f4⟩ := to_step h q hn hF h0 hk (by omega) (fun q => hst (.inl q)) (leaf_of_go hst)
        have hs := reach_sames L a k v hv n t (by omega)
        rw [hl2] at hfew ⊢
        have hr := f3 k hkl rfl
        have hrv := f3 v (by omega) hs
        refine Nat.le_trans (to_room q hn hk hv g _ _ f1 f4 (by rw [hr]; show _ + (l - k) ≤ 63; omega)) ?_
        rw [hrv, f2, hs, hl2]
        show _ + 1 + l ≤ _
        omega
/-- **split down to k, and then to 0: as at once** -/
theorem to_low2 (q : PoolK S P M) (hn : n ≤ 2) (hk : k ≤ n) : ∀ (g : Nat) (L : List (Nat × Nat)) (F : Nat), Fit S P M F n t L → F < 2 ^ M → (tabs L n t).length + (reachT L a 0 n t).2 ≤ 63 → ∀ {L' : List (Nat × Nat)} {F' : Nat}, toS P a k n t g L F = (0, L', F') → toS P a 0 n t 3 L' F' = toS P a 0 n t 3 L F
  | 0, L, F, h, hF, hfew, L', F', e => by
    rw [toS] at e
    injection e with _ e
    injection e with e1 e2
    rw [e1, e2]
  | g + 1, L, F, h, hF, hfew, L', F', e => by
    by_cases hst : (reachT L a k n t).2 = k ∨ leafB (tE L (reachT L a k n t).1 (ixN a (reachT L a k n t).2)) = false
    · rw [to_stop hst] at e
      injection e with _ e
      injection e with e1 e2
      rw [e1, e2]
    · by_cases h0 : F = 0
      · rw [to_no hst h0] at e
        injection e with e _
        cases e
      · rw [to_go hst h0] at e
        have h2 := leaf_of_go hst
        have hge := reach_ge L a k n t hk
        have hs0 := reach_sames L a k 0 (Nat.zero_le _) n t (by
          rcases Nat.lt_or_ge k (reachT L a k n t).2 with c | c
          · exact c
          · exact absurd (.inl (by omega)) hst)
        rw [hs0] at hfew
        obtain ⟨l, hl2, hkl, f1, f2, f3, f4⟩ := to_step h q hn hF h0 hk (by omega) (fun q => hst (.inl q)) h2
        have hr0 := f3 0 (Nat.zero_le _) hs0
        rw [hl2] at e hfew
        have hle := tabs_le (reach_mem L a k n t)
        rw [to_low2 q hn hk g _ _ f1 f4 (by rw [hr0]; show _ + l ≤ 63; omega) e]
        have hm := to_more2 (a := a) (k := 0) q hn (Nat.zero_le n) 2 _ _ f1 f4 (by rw [hr0]; show _ + (l - 0) ≤ 63; omega) (by rw [hr0]; show l ≤ 0 + 2; omega)
        rw [hm]
        symm
        have hst0 : ¬ ((reachT L a 0 n t).2 = 0 ∨ leafB (tE L (reachT L a 0 n t).1 (ixN a (reachT L a 0 n t).2)) = false) := by
          rw [hs0]
          rintro (c | c)
          · omega
          · rw [h2] at c; cases c
        rw [to_go hst0 h0, hs0, hl2]
end
end Go.Proofs.YticbjiddbjgikaaDoor
/- Layer 20, as plain values: the way down by reaching, a split's row entry by entry, a pruning from the lowest table up. No program. -/
namespace Go.Proofs.YticbjiddbjgikaaDoor
set_option linter.unusedVariables false
set_option linter.unusedSimpArgs false

section
variable {S P M F n t : Nat} {L : List (Nat × Nat)} {a k : Nat}
theorem reach_stop {K : List (Nat × Nat)} : ∀ {m u : Nat}, k < (reachT K a k m u).2 → goB K (reachT K a k m u).1 (ixN a (reachT K a k m u).2) (reachT K a k m u).2 = false
  | 0, u, h => absurd h (by show ¬ k < 0; omega)
  | m + 1, u, h => by
    rw [reachT] at h ⊢
    by_cases c : k < m + 1 ∧ goB K u (ixN a (m + 1)) (m + 1) = true
    · rw [if_pos c] at h ⊢
      exact reach_stop h
    · rw [if_neg c] at h ⊢
      have h : k < m + 1 := h
      show goB K u (ixN a (m + 1)) (m + 1) = false
      cases q : goB K u (ixN a (m + 1)) (m + 1)
      · rfl
      · exact absurd ⟨h, q⟩ c
theorem link_v {p : Pt} (h : linkB p = true) : p.v = true := by
  unfold linkB at h
  simp only [Bool.and_eq_true] at h
  exact h.1.1
theorem dn_reach (P : Nat) (G : Nat) (K : List (Nat × Nat)) (a k : Nat) : ∀ m u : Nat, dnS P a k m K G u = dnS P a k (reachT K a k m u).2 K G (reachT K a k m u).1
  | 0, u => rfl
  | m + 1, u => by
    rw [reachT]
    by_cases c : k < m + 1 ∧ goB K u (ixN a (m + 1)) (m + 1) = true
    · rw [if_pos c]
      have hg := c.2
      unfold goB at hg
      simp only [Bool.and_eq_true] at hg
      rw [dnS, if_neg (by omega), if_neg (by rw [lnk_nl hg.1]; decide), if_pos (link_v hg.1)]
      exact dn_reach P G K a k m _
    · rw [if_neg c]
/-- a way down as it is reached -/
structure DnR (S P M n t a k : Nat) (L K : List (Nat × Nat)) (G l u : Nat) (D : Nat × List (Nat × Nat) × Nat × Nat) : Prop where
  at_ : DnAt S P M n t L K G l u
  re : reachT K a k n t = (u, l)
  is_ : dnS P a k l K G u = D
  ge : k ≤ l
variable {K : List (Nat × Nat)} {G l u : Nat} {D : Nat × List (Nat × Nat) × Nat × Nat}
theorem DnR.start (h : Fit S P M F n t L) (hF : F < 2 ^ M) (hk : k ≤ n) : DnR S P M n t a k L L F (reachT L a k n t).2 (reachT L a k n t).1 (dnS P a k n L F t) := by
  have hm := reach_mem L a k n t
  have hl := tabs_le hm
  exact ⟨⟨h, hF, hm, by omega, by omega⟩, rfl, (dn_reach P F L a k n t).symm, reach_ge L a k n t hk⟩
theorem DnR.done (h : DnR S P M n t a k L K G l u D) (e : l = k) : D = (0, K, G, u) := by
  rw [← h.is_, e]
  exact dn_end P a k K G u
theorem DnR.nolink (h : DnR S P M n t a k L K G (l + 1) u D) (hk : k ≤ l) : linkB (tE K u (ixN a (l + 1))) = false := by
  have h1 := reach_stop (K := K) (a := a) (k := k) (m := n) (u := t) (by rw [h.re]; show k < l + 1; omega)
  rw [h.re] at h1
  simp only at h1
  cases q : linkB (tE K u (ixN a (l + 1)))
  · rfl
  · have hw : wordL K (512 * u + ixN a (l + 1)) ≠ 0 := fun e => by
      unfold tE at q
      rw [e, nul_link] at q
      cases q
    have hb := h.at_.fit.cl _ h.at_.at_ _ (ixN_lt a (l + 1)) hw
    unfold goB at h1
    rw [q, hb] at h1
    cases h1
theorem leaf_of_v {p : Pt} (hv : p.v = true) (hl : linkB p = false) : leafB p = true := by
  unfold linkB at hl
  unfold leafB
  rw [hv] at hl ⊢
  cases hr : p.r <;> cases hx : p.x <;> simp_all
theorem DnR.over (h : DnR S P M n t a k L K G (l + 1) u D) (hk : k ≤ l) (hv : (tE K u (ixN a (l + 1))).v = true) : D = (6, K, G, u) := by
  rw [← h.is_]
  exact dn_over hk (leaf_of_v hv (h.nolink hk))
theorem leaf_nv {p : Pt} (hv : p.v = false) : leafB p = false := by unfold leafB; rw [hv]; rfl
theorem DnR.lack (h : DnR S P M n t a k L K G (l + 1) u D) (hk : k ≤ l) (hv : (tE K u (ixN a (l + 1))).v = false) (h0 : G = 0) : D = (8, K, 0, u) := by
  rw [← h.is_, h0]
  exact dn_lack hk (leaf_nv hv) hv
theorem DnR.next (q : PoolK S P M) (hn : n ≤ 2) (hfew : (tabs L n t).length ≤ 60) (h : DnR S P M n t a k L K G (l + 1) u D) (hk : k ≤ l) (hv : (tE K u (ixN a (l + 1))).v = false) (h0 : G ≠ 0) :
    DnR S P M n t a k L (frS K (P + lowN' G) u (ixN a (l + 1))) (takeF G) l (P + lowN' G) D := by
  have hl := h.nolink hk
  have hf := h.at_.few
  have h2 := tabs_le h.at_.at_
  simp only at h2
  obtain ⟨e1, e2, e3⟩ := dn_fresh q hk hn (leaf_nv hv) hv h0 hfew h.at_
  obtain ⟨f1, f2, f3⟩ := h.at_.fit.fresh_fit q h.at_.bits h0 h.at_.at_ (ixN_lt a (l + 1)) hl (by omega)
  obtain ⟨hTF, hlt⟩ := h.at_.fit.fresh q.m h.at_.bits h0 q.sz
  refine ⟨e2, ?_, e1.symm.trans h.is_, hk⟩
  rw [f3.reach a k hTF h.at_.at_, h.re, if_pos ⟨rfl, rfl, hk⟩]
/-- a fresh table's entries, laid one by one -/
structure RowK (S : Nat) (L K : List (Nat × Nat)) (s j f l i : Nat) : Prop where
  rl : RL (S / 8) K
  w : ∀ r, wordL K r = if r / 512 = f ∧ r % 512 < i then putN (prt (tE L s j) l (r % 512)) else wordL (frS L f s j) r
  len : K.length ≤ L.length + 1 + i
variable {s j f i : Nat}
theorem fr_is (h : RL (S / 8) L) (h8 : S % 4096 = 0) (hs : s < S / 4096) (hf : f < S / 4096) (hj : j < 512) : RL (S / 8) (frS L f s j) := by
  unfold frS lnkS stS clrF
  exact storeL_is (clearL_is h (by omega)) (by omega) _ _
theorem fr_len (L : List (Nat × Nat)) (f s j : Nat) : (frS L f s j).length ≤ L.length + 1 := by
  unfold frS lnkS stS
  refine Nat.le_trans (storeL_len _ _ _ _) ?_
  have : (clrF L f).length ≤ L.length := by unfold clrF; exact cutL_len (by omega) []
  omega
theorem RowK.start (h : RL (S / 8) L) (h8 : S % 4096 = 0) (hs : s < S / 4096) (hf : f < S / 4096) (hj : j < 512) : RowK S L (frS L f s j) s j f l 0 :=
  ⟨fr_is h h8 hs hf hj, fun r => by rw [if_neg (by omega)], fr_len L f s j⟩
theorem RowK.next (h8 : S % 4096 = 0) (hf : f < S / 4096) (hi : i < 512) (hm : mayB (prt (tE L s j) l i) = true) (h : RowK S L K s j f l i) : RowK S L (stS K f i (putN (prt (tE L s j) l i))) s j f l (i + 1) := by
  refine ⟨?_, fun r => ?_, ?_⟩
  · unfold stS
    exact storeL_is h.rl (by omega) _ _
  · rw [st_word hi (put_lt hm), h.w]
    by_cases e : r = 512 * f + i
    · have e2 : r % 512 = i := by omega
      rw [if_pos e, if_pos ⟨by omega, by omega⟩, e2]
    · rw [if_neg e]
      by_cases c : r / 512 = f ∧ r % 512 < i
      · rw [if_pos c, if_pos ⟨c.1, by omega⟩]
      · rw [if_neg c, if_neg (by omega)]
  · have := h.len
    unfold stS
    refine Nat.le_trans (storeL_len _ _ _ _) (by omega)
theorem RowK.done (h : RowK S L K s j f l 512) (hS : RL (S / 8) (splS L f s j l)) (hj : j < 512) (hf : f < 17592186044416) (hne : f ≠ s) : K = splS L f s j l := by
  refine RL.ext h.rl hS fun r => ?_
  rw [h.w, spl_laid hj hf, fr_laid hj hf]
  by_cases e : r = 512 * s + j
  · rw [if_neg (by omega), if_pos e, if_pos e]
  · rw [if_neg e, if_neg e]
    by_cases c : r / 512 = f
    · rw [if_pos (show r / 512 = f ∧ r % 512 < 512 from ⟨c, by omega⟩), if_pos c]
    · rw [if_neg (fun q => c q.1), if_neg c, if_neg c]
/-- how an address' way goes on from a level -/
theorem reach_on {K : List (Nat × Nat)} {w : Nat} : ∀ m u : Nat, w ≤ m → reachT K a 0 m u = reachT K a 0 (reachT K a w m u).2 (reachT K a w m u).1
  | 0, u, h => rfl
  | m + 1, u, h => by
    by_cases c : w < m + 1 ∧ goB K u (ixN a (m + 1)) (m + 1) = true
    · have e1 : reachT K a w (m + 1) u = reachT K a w m (tE K u (ixN a (m + 1))).pp := by rw [reachT, if_pos c]
      have e2 : reachT K a 0 (m + 1) u = reachT K a 0 m (tE K u (ixN a (m + 1))).pp := by rw [reachT, if_pos ⟨by omega, c.2⟩]
      rw [e1, e2]
      exact reach_on m _ (by omega)
    · have e1 : reachT K a w (m + 1) u = (u, m + 1) := by rw [reachT, if_neg c]
      rw [e1]
theorem reach_up {K : List (Nat × Nat)} {w : Nat} (hw : w ≤ n) (hlo : (reachT K a 0 n t).2 < w) : (reachT K a w n t).2 = w ∧ goB K (reachT K a w n t).1 (ixN a w) w = true := by
  have hge := reach_ge K a w n t hw
  have h2 : (reachT K a w n t).2 = w := by
    rcases Nat.lt_or_ge w (reachT K a w n t).2 with q | q
    · have := reach_same K a w n t q
      rw [this] at hlo
      omega
    · omega
  refine ⟨h2, ?_⟩
  have h3 := reach_on (a := a) (K := K) (w := w) n t hw
  rw [h2] at h3
  cases w with
  | zero => omega
  | succ w =>
    cases q : goB K (reachT K a (w + 1) n t).1 (ixN a (w + 1)) (w + 1)
    · rw [reachT, if_neg (by rw [q]; simp)] at h3
      rw [h3] at hlo
      simp only at hlo
      omega
    · rfl
theorem go_link {K : List (Nat × Nat)} {t i m : Nat} (h : goB K t i m = true) : linkB (tE K t i) = true := by
  unfold goB at h
  simp only [Bool.and_eq_true] at h
  exact h.1
theorem pr_low (h : Fit S P M F n t L) : ∀ w, w ≤ (reachT L a 0 n t).2 → prS P M a n t w L F = (L, F)
  | 0, _ => rfl
  | w + 1, hw => by
    rw [prS, pr_low h w (by omega)]
    refine if_neg ?_
    rintro ⟨c1, c2, -⟩
    (try simp only at c1 c2)
    have hle := tabs_le (reach_mem L a 0 n t)
    have hm := reach_mem L a (w + 1) n t
    have h3 := reach_on (a := a) (K := L) (w := w + 1) n t (by omega)
    rw [c1] at c2 h3
    have hs : ((reachT L a (w + 1) n t).1, w + 1) ∈ tabs L n t := by
      generalize reachT L a (w + 1) n t = r at hm c1 ⊢
      obtain ⟨r1, r2⟩ := r
      simp only at c1 ⊢
      subst c1
      exact hm
    have hg := clean_go h hs (ixN_lt a (w + 1)) c2
    rw [reachT, if_pos ⟨by omega, hg⟩] at h3
    have := tabs_le (reach_mem L a 0 w (tE L (reachT L a (w + 1) n t).1 (ixN a (w + 1))).pp)
    rw [← h3] at this
    omega
/-- pruned up to a level: what stands above it is as it was -/
structure PrAt (S P M a n t w : Nat) (L : List (Nat × Nat)) (q : List (Nat × Nat) × Nat) : Prop where
  is_ : PrIs S P M n t L q
  re : ∀ v, w < v → v ≤ n → reachT q.1 a v n t = reachT L a v n t
  en : ∀ v, w < v → v ≤ n → tE q.1 (reachT L a v n t).1 (ixN a v) = tE L (reachT L a v n t).1 (ixN a v)
theorem PrAt.start (h : Fit S P M F n t L) (hF : F < 2 ^ M) (w : Nat) : PrAt S P M a n t w L (L, F) := ⟨⟨h, hF, Nat.le_refl _, Nat.le_refl _⟩, fun _ _ _ => rfl, fun _ _ _ => rfl⟩
/-- one table of a pruning -/
def prOne (P M s j x : Nat) (q : List (Nat × Nat) × Nat) : List (Nat × Nat) × Nat := if empB q.1 x = true then (stS (clrF q.1 x) s j 0, freedN P M q.2 x) else q
variable {q : List (Nat × Nat) × Nat} {w : Nat}
theorem reach_pair {K : List (Nat × Nat)} {v : Nat} (h2 : (reachT K a v n t).2 = v) : ((reachT K a v n t).1, v) ∈ tabs K n t := by
  have hm := reach_mem K a v n t
  generalize reachT K a v n t = r at hm h2 ⊢
  obtain ⟨r1, r2⟩ := r
  simp only at h2 ⊢
  subst h2
  exact hm
theorem PrAt.step (kk : PoolK S P M) (h : Fit S P M F n t L) (hF : F < 2 ^ M) (hw : w + 1 ≤ n) (hlo : (reachT L a 0 n t).2 < w + 1) (hq : prS P M a n t w L F = q) (p : PrAt S P M a n t w L q) :
    prS P M a n t (w + 1) L F = prOne P M (reachT L a (w + 1) n t).1 (ixN a (w + 1)) (tE L (reachT L a (w + 1) n t).1 (ixN a (w + 1))).pp q ∧ PrAt S P M a n t (w + 1) L (prOne P M (reachT L a (w + 1) n t).1 (ixN a (w + 1)) (tE L (reachT L a (w + 1) n t).1 (ixN a (w + 1))).pp q) := by
  obtain ⟨u2, ug⟩ := reach_up (K := L) (a := a) (n := n) (t := t) hw hlo
  have hre := p.re (w + 1) (by omega) hw
  have hen := p.en (w + 1) (by omega) hw
  have e1 : prS P M a n t (w + 1) L F = prOne P M (reachT L a (w + 1) n t).1 (ixN a (w + 1)) (tE L (reachT L a (w + 1) n t).1 (ixN a (w + 1))).pp q := by
    rw [prS, hq]
    (try simp only)
    rw [hre, u2, hen]
    unfold prOne
    by_cases c : empB q.1 (tE L (reachT L a (w + 1) n t).1 (ixN a (w + 1))).pp = true
    · rw [if_pos ⟨rfl, go_link ug, c⟩, if_pos c]
    · rw [if_neg fun z => c z.2.2, if_neg c]
  refine ⟨e1, ?_⟩
  unfold prOne
  by_cases c : empB q.1 (tE L (reachT L a (w + 1) n t).1 (ixN a (w + 1))).pp = true
  · rw [if_pos c]
    have hr2 : (reachT q.1 a (w + 1) n t).2 = w + 1 := by rw [hre, u2]
    have un := pr_one (a := a) kk p.is_ hr2 (by rw [hre, hen]; exact go_link ug) (by rw [hre, hen]; exact c)
    rw [hre, hen] at un
    have hTF : TreeF (stS (clrF q.1 (tE L (reachT L a (w + 1) n t).1 (ixN a (w + 1))).pp) (reachT L a (w + 1) n t).1 (ixN a (w + 1)) 0) (tE L (reachT L a (w + 1) n t).1 (ixN a (w + 1))).pp n t := ⟨un.fit.tree.nd, un.ls.nf⟩
    refine ⟨p.is_.next un, fun v h1 h2 => ?_, fun v h1 h2 => ?_⟩
    · have := un.lk.reach a v hTF un.ls.has
      rw [if_neg (fun z => by have := z.2.2; omega)] at this
      show reachT (stS _ _ _ _) a v n t = _
      rw [← this]
      exact p.re v (by omega) h2
    · obtain ⟨v2, -⟩ := reach_up (K := L) (a := a) (n := n) (t := t) h2 (by omega)
      have rv := p.re v (by omega) h2
      have hv2 : (reachT q.1 a v n t).2 = v := by rw [rv, v2]
      have hm := reach_pair hv2
      have hs := reach_pair hr2
      rw [rv] at hm
      rw [hre] at hs
      have hf : ((tE L (reachT L a (w + 1) n t).1 (ixN a (w + 1))).pp, w) ∈ tabs q.1 n t := tabs_next (ixN_lt _ _) un.lk.new un.lk.pp hs
      have n1 : (reachT L a v n t).1 ≠ (reachT L a (w + 1) n t).1 := fun e => by
        have := p.is_.fit.tree.level hm hs e
        injection this with _ e2
        omega
      have n2 : (reachT L a v n t).1 ≠ (tE L (reachT L a (w + 1) n t).1 (ixN a (w + 1))).pp := fun e => by
        have := p.is_.fit.tree.level hm hf e
        injection this with _ e2
        omega
      have := un.lk.same (reachT L a v n t).1 (ixN a v) (ixN_lt _ _) n2 fun z => n1 z.1
      show tE (stS _ _ _ _) _ _ = _
      rw [← this]
      exact p.en v (by omega) h2
  · rw [if_neg c]
    exact ⟨p.is_, fun v h1 h2 => p.re v (by omega) h2, fun v h1 h2 => p.en v (by omega) h2⟩
end
end Go.Proofs.YticbjiddbjgikaaDoor
/- Layer 20, as plain values: a row of cells is laid between others, one by one. No program. -/
namespace Go.Proofs.YticbjiddbjgikaaDoor
set_option linter.unusedVariables false
set_option linter.unusedSimpArgs false

/-- how far a row is laid among the cells of L -/
def LayAt (L : List (Nat × Nat)) (f : Nat) (row : List (Nat × Nat)) (i : Nat) : Bool → List (Nat × Nat) → Prop
  | false, out => out = L.take i ∧ ∀ j, j < i → atN L j < 512 * f
  | true, out => out = L.filter (fun c => decide (c.1 < 512 * f)) ++ (row ++ (L.take i).filter fun c => !decide (c.1 < 512 * f)) ∧ ∀ j, i ≤ j → j < L.length → 512 * f ≤ atN L j
section
variable {L row out : List (Nat × Nat)} {f i : Nat}
theorem lay_0 : LayAt L f row 0 false [] := ⟨by simp, fun j hj => by omega⟩
theorem take_next (hi : i < L.length) : L.take (i + 1) = L.take i ++ [L[i]] := by rw [List.take_add_one, List.getElem?_eq_getElem hi]; rfl
theorem lay_less (hi : i < L.length) (ha : atN L i < 512 * f) (h : LayAt L f row i false out) : LayAt L f row (i + 1) false (out ++ [L[i]]) := by
  obtain ⟨h1, h2⟩ := h
  refine ⟨by rw [h1, take_next hi], fun j hj => ?_⟩
  by_cases e : j = i
  · subst e; exact ha
  · exact h2 j (by omega)
theorem lay_more (hi : i < L.length) (h : LayAt L f row i true out) : LayAt L f row (i + 1) true (out ++ [L[i]]) := by
  obtain ⟨h1, h2⟩ := h
  refine ⟨?_, fun j hj hl => h2 j (by omega) hl⟩
  have hge := h2 i (Nat.le_refl _) hi
  rw [atN_get hi] at hge
  rw [h1, take_next hi, List.filter_append, List.filter_cons, if_pos (by simp; omega)]
  simp
theorem all_take (h : ∀ j, j < i → atN L j < 512 * f) (hi : i ≤ L.length) : ∀ c ∈ L.take i, c.1 < 512 * f := fun c hc => by
  obtain ⟨j, hj, rfl⟩ := List.getElem_of_mem hc
  rw [List.length_take] at hj
  rw [List.getElem_take]
  have := h j (by omega)
  rwa [atN_get (by omega)] at this
theorem lay_laid {n : Nat} (hr : RL n L) (hi : i < L.length) (ha : 512 * f ≤ atN L i) (h : LayAt L f row i false out) : LayAt L f row (i + 1) true ((out ++ row) ++ [L[i]]) := by
  obtain ⟨h1, h2⟩ := h
  have hall := all_take h2 (Nat.le_of_lt hi)
  have hge : ∀ j, i ≤ j → j < L.length → 512 * f ≤ atN L j := fun j hj hl => by
    by_cases e : i = j
    · subst e; exact ha
    · have := hr.rise (show i < j by omega) hl
      omega
  refine ⟨?_, fun j hj hl => hge j (by omega) hl⟩
  have hd : ∀ c ∈ L.drop i, ¬ c.1 < 512 * f := fun c hc => by
    obtain ⟨j, hj, rfl⟩ := List.getElem_of_mem hc
    rw [List.length_drop] at hj
    rw [List.getElem_drop]
    have := hge (i + j) (by omega) (by omega)
    rw [atN_get (by omega)] at this
    omega
  have hf : L.filter (fun c => decide (c.1 < 512 * f)) = L.take i := by
    have e := (List.take_append_drop i L).symm
    rw [e, List.filter_append, ← e]
    rw [List.filter_eq_self.2 (fun c hc => by simp; exact hall c hc), List.filter_eq_nil_iff.2 (fun c hc => by simp; have := hd c hc; omega)]
    simp
  have hg : (L.take i).filter (fun c => !decide (c.1 < 512 * f)) = [] := List.filter_eq_nil_iff.2 fun c hc => by simp; exact hall c hc
  have hge' := hge i (Nat.le_refl _) hi
  rw [atN_get hi] at hge'
  rw [hf, h1, take_next hi, List.filter_append, hg, List.filter_cons, if_pos (by simp; omega)]
  simp
theorem lay_t (h : LayAt L f row L.length true out) : out = insS L f row := by
  rw [h.1, List.take_length]; rfl
theorem lay_f (h : LayAt L f row L.length false out) : out ++ row = insS L f row := by
  obtain ⟨h1, h2⟩ := h
  have hall := all_take h2 (Nat.le_refl _)
  rw [List.take_length] at hall h1
  unfold insS
  rw [List.filter_eq_self.2 (fun c hc => by simp; exact hall c hc), List.filter_eq_nil_iff.2 (fun c hc => by simp; exact hall c hc), h1]
  simp
end
end Go.Proofs.YticbjiddbjgikaaDoor
