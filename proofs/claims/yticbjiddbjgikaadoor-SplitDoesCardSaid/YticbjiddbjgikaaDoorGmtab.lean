/- Layer 19, as plain values: a tree of tables: its tables, its pages, the spot of an address; a word of it written. No program. -/
import Derived.Test.YticbjiddbjgikaaDoorGten
namespace Go.Proofs.YticbjiddbjgikaaDoor
set_option linter.unusedVariables false
set_option linter.unusedSimpArgs false

/-- the entry of an index in the table of a frame -/
def tE (L : List (Nat × Nat)) (t i : Nat) : Pt := getP (wordL L (512 * t + i))
/-- does it lead to another table; is it a page -/
def goB (L : List (Nat × Nat)) (t i n : Nat) : Bool := linkB (tE L t i) && !badB (tE L t i) (n : Int)
def pgB (L : List (Nat × Nat)) (t i n : Nat) : Bool := leafB (tE L t i) && !badB (tE L t i) (n : Int)
def szN (n : Nat) : Nat := 4096 * 512 ^ n
def ixN (a n : Nat) : Nat := a / szN n % 512
/-- the tree's tables, with their levels: the top first -/
def tabs (L : List (Nat × Nat)) : Nat → Nat → List (Nat × Nat)
  | 0, t => [(t, 0)]
  | n + 1, t => (t, n + 1) :: (List.range 512).flatMap fun i => if goB L t i (n + 1) then tabs L n (tE L t i).pp else []
/-- its pages: where they begin, of which level, the entry -/
def pgs (L : List (Nat × Nat)) : Nat → Nat → Nat → List (Nat × Nat × Pt)
  | 0, t, b => (List.range 512).flatMap fun i => if pgB L t i 0 then [(b + i * szN 0, 0, tE L t i)] else []
  | n + 1, t, b => (List.range 512).flatMap fun i => if pgB L t i (n + 1) then [(b + i * szN (n + 1), n + 1, tE L t i)] else if goB L t i (n + 1) then pgs L n (tE L t i).pp (b + i * szN (n + 1)) else []
/-- where an address' spot is, for a level: the table, its level -/
def reachT (L : List (Nat × Nat)) (a w : Nat) : Nat → Nat → Nat × Nat
  | 0, t => (t, 0)
  | n + 1, t => if w < n + 1 ∧ goB L t (ixN a (n + 1)) (n + 1) = true then reachT L a w n (tE L t (ixN a (n + 1))).pp else (t, n + 1)
/-- a tree that is right -/
structure TreeOk (S : Nat) (L : List (Nat × Nat)) (n t : Nat) : Prop where
  lt : ∀ x ∈ tabs L n t, x.1 < S / 4096
  nd : ((tabs L n t).map (·.1)).Nodup
  le : (tabs L n t).length ≤ 64

theorem szN_pos (n : Nat) : 0 < szN n := by unfold szN; have := Nat.two_pow_pos n; exact Nat.mul_pos (by decide) (Nat.pow_pos (by decide))
theorem szN_succ (n : Nat) : szN (n + 1) = 512 * szN n := by unfold szN; rw [Nat.pow_succ]; omega
theorem ixN_lt (a n : Nat) : ixN a n < 512 := Nat.mod_lt _ (by decide)
theorem go_not_page {L : List (Nat × Nat)} {t i n : Nat} (h : goB L t i n = true) : pgB L t i n = false := by
  unfold goB at h
  unfold pgB
  simp only [Bool.and_eq_true] at h
  have h1 := h.1
  unfold linkB at h1
  unfold leafB
  revert h1
  cases (tE L t i).v <;> cases (tE L t i).r <;> cases (tE L t i).x <;> simp
theorem go_zero (L : List (Nat × Nat)) (t i : Nat) : goB L t i 0 = false := by
  unfold goB
  cases hb : badB (tE L t i) ((0 : Nat) : Int)
  · have h2 := not_leaf_low hb
    rw [link_of hb, h2]; rfl
  · simp
theorem tabs_head (L : List (Nat × Nat)) (n t : Nat) : ∃ r, tabs L n t = (t, n) :: r := by
  cases n with
  | zero => exact ⟨[], rfl⟩
  | succ n => exact ⟨_, rfl⟩
theorem tabs_top (L : List (Nat × Nat)) (n t : Nat) : (t, n) ∈ tabs L n t := by
  obtain ⟨r, e⟩ := tabs_head L n t
  rw [e]; exact List.mem_cons_self
theorem tabs_child {L : List (Nat × Nat)} {n t i : Nat} (hi : i < 512) (h : goB L t i (n + 1) = true) {x : Nat × Nat} (hx : x ∈ tabs L n (tE L t i).pp) : x ∈ tabs L (n + 1) t := by
  rw [tabs]
  refine List.mem_cons_of_mem _ (List.mem_flatMap.2 ⟨i, List.mem_range.2 hi, ?_⟩)
  rw [if_pos h]; exact hx
theorem tabs_cases {L : List (Nat × Nat)} {n t : Nat} {x : Nat × Nat} (hx : x ∈ tabs L (n + 1) t) : x = (t, n + 1) ∨ ∃ i, i < 512 ∧ goB L t i (n + 1) = true ∧ x ∈ tabs L n (tE L t i).pp := by
  rw [tabs] at hx
  rcases List.mem_cons.1 hx with h | h
  · exact .inl h
  · obtain ⟨i, hi, h⟩ := List.mem_flatMap.1 h
    by_cases hg : goB L t i (n + 1) = true
    · rw [if_pos hg] at h
      exact .inr ⟨i, List.mem_range.1 hi, hg, h⟩
    · rw [if_neg hg] at h; cases h
theorem tabs_le {L : List (Nat × Nat)} : ∀ {n t : Nat} {x : Nat × Nat}, x ∈ tabs L n t → x.2 ≤ n
  | 0, t, x, hx => by
    rw [tabs] at hx
    simp only [List.mem_singleton] at hx
    rw [hx]; exact Nat.le_refl _
  | n + 1, t, x, hx => by
    rcases tabs_cases hx with rfl | ⟨i, hi, hg, h⟩
    · exact Nat.le_refl _
    · exact Nat.le_succ_of_le (tabs_le h)

/-! parts of a right tree -/
theorem nodup_flat {α β : Type} {f : α → List β} : ∀ {l : List α}, (l.flatMap f).Nodup → ∀ i ∈ l, (f i).Nodup
  | [], _, i, hi => by cases hi
  | a :: l, h, i, hi => by
    rw [List.flatMap_cons, List.nodup_append] at h
    rcases List.mem_cons.1 hi with rfl | hi
    · exact h.1
    · exact nodup_flat h.2.1 i hi
theorem le_sum {x : Nat} : ∀ {l : List Nat}, x ∈ l → x ≤ l.sum
  | [], h => by cases h
  | a :: l, h => by
    rw [List.sum_cons]
    rcases List.mem_cons.1 h with rfl | h
    · omega
    · have := le_sum h; omega
theorem TreeOk.child {S : Nat} {L : List (Nat × Nat)} {n t i : Nat} (h : TreeOk S L (n + 1) t) (hi : i < 512) (hg : goB L t i (n + 1) = true) : TreeOk S L n (tE L t i).pp ∧ ∀ x ∈ tabs L n (tE L t i).pp, x.1 ≠ t := by
  have hnd := h.nd
  rw [tabs, List.map_cons, List.map_flatMap, List.nodup_cons] at hnd
  have hsub : ∀ x ∈ tabs L n (tE L t i).pp, x ∈ tabs L (n + 1) t := fun x hx => tabs_child hi hg hx
  refine ⟨⟨fun x hx => h.lt x (hsub x hx), ?_, ?_⟩, fun x hx e => ?_⟩
  · have := nodup_flat hnd.2 i (List.mem_range.2 hi)
    rwa [if_pos hg] at this
  · have hl := h.le
    rw [tabs, List.length_cons, List.length_flatMap] at hl
    have : (tabs L n (tE L t i).pp).length ≤ ((List.range 512).map fun i => (if goB L t i (n + 1) then tabs L n (tE L t i).pp else []).length).sum := by
      have hm : (tabs L n (tE L t i).pp).length ∈ (List.range 512).map fun i => (if goB L t i (n + 1) then tabs L n (tE L t i).pp else []).length :=
        List.mem_map.2 ⟨i, List.mem_range.2 hi, by rw [if_pos hg]⟩
      exact le_sum hm
    omega
  · refine hnd.1 ?_
    rw [List.mem_flatMap]
    refine ⟨i, List.mem_range.2 hi, ?_⟩
    rw [if_pos hg]
    exact List.mem_map.2 ⟨x, hx, e⟩
theorem TreeOk.top {S : Nat} {L : List (Nat × Nat)} {n t : Nat} (h : TreeOk S L n t) : t < S / 4096 := h.lt (t, n) (tabs_top L n t)
theorem TreeOk.level {S : Nat} {L : List (Nat × Nat)} {n t : Nat} (h : TreeOk S L n t) {x y : Nat × Nat} (hx : x ∈ tabs L n t) (hy : y ∈ tabs L n t) (e : x.1 = y.1) : x = y := by
  have hnd := h.nd
  generalize tabs L n t = l at *
  induction l with
  | nil => cases hx
  | cons a l ih =>
    rw [List.map_cons, List.nodup_cons] at hnd
    rcases List.mem_cons.1 hx with rfl | hx'
    · rcases List.mem_cons.1 hy with rfl | hy'
      · rfl
      · exact absurd (List.mem_map.2 ⟨y, hy', e.symm⟩) hnd.1
    · rcases List.mem_cons.1 hy with rfl | hy'
      · exact absurd (List.mem_map.2 ⟨x, hx', e⟩) hnd.1
      · exact ih hx' hy' hnd.2

/-! what hangs on the tables' entries alone -/
def SameAt (L K : List (Nat × Nat)) (n t : Nat) : Prop := ∀ x ∈ tabs L n t, ∀ i, i < 512 → tE K x.1 i = tE L x.1 i
theorem flat_congr {α β : Type} {f g : α → List β} : ∀ {l : List α}, (∀ i ∈ l, f i = g i) → l.flatMap f = l.flatMap g
  | [], _ => rfl
  | a :: l, h => by
    rw [List.flatMap_cons, List.flatMap_cons, h a List.mem_cons_self, flat_congr fun i hi => h i (List.mem_cons_of_mem _ hi)]
/-- links are as they were: so are the tables -/
theorem tabs_same {L K : List (Nat × Nat)} : ∀ {n t : Nat}, (∀ x ∈ tabs L n t, ∀ i, i < 512 → goB K x.1 i x.2 = goB L x.1 i x.2 ∧ (goB L x.1 i x.2 = true → (tE K x.1 i).pp = (tE L x.1 i).pp)) → tabs K n t = tabs L n t
  | 0, t, _ => rfl
  | n + 1, t, h => by
    rw [tabs, tabs]
    refine congrArg (List.cons (t, n + 1)) (flat_congr fun i hi => ?_)
    have hi' := List.mem_range.1 hi
    obtain ⟨h1, h2⟩ := h (t, n + 1) (tabs_top L (n + 1) t) i hi'
    simp only at h1 h2
    rw [h1]
    by_cases hg : goB L t i (n + 1) = true
    · rw [if_pos hg, if_pos hg, h2 hg]
      exact tabs_same fun x hx j hj => h x (tabs_child hi' hg hx) j hj
    · rw [if_neg hg, if_neg hg]
theorem SameAt.go {L K : List (Nat × Nat)} {n t : Nat} (h : SameAt L K n t) {x : Nat × Nat} (hx : x ∈ tabs L n t) {i : Nat} (hi : i < 512) (l : Nat) : goB K x.1 i l = goB L x.1 i l := by
  unfold goB; rw [h x hx i hi]
theorem SameAt.pg {L K : List (Nat × Nat)} {n t : Nat} (h : SameAt L K n t) {x : Nat × Nat} (hx : x ∈ tabs L n t) {i : Nat} (hi : i < 512) (l : Nat) : pgB K x.1 i l = pgB L x.1 i l := by
  unfold pgB; rw [h x hx i hi]
theorem SameAt.tab {L K : List (Nat × Nat)} {n t : Nat} (h : SameAt L K n t) : tabs K n t = tabs L n t :=
  tabs_same fun x hx i hi => ⟨h.go hx hi _, fun _ => by rw [h x hx i hi]⟩
theorem SameAt.child {L K : List (Nat × Nat)} {n t i : Nat} (h : SameAt L K (n + 1) t) (hi : i < 512) (hg : goB L t i (n + 1) = true) : SameAt L K n (tE L t i).pp := fun x hx j hj => h x (tabs_child hi hg hx) j hj
theorem SameAt.pages {L K : List (Nat × Nat)} : ∀ {n t : Nat} (b : Nat), SameAt L K n t → pgs K n t b = pgs L n t b
  | 0, t, b, h => by
    rw [pgs, pgs]
    refine flat_congr fun i hi => ?_
    have hi' := List.mem_range.1 hi
    have h1 := h.pg (tabs_top L 0 t) hi' 0
    have h2 := h _ (tabs_top L 0 t) i hi'
    simp only at h1 h2
    rw [h1, h2]
  | n + 1, t, b, h => by
    rw [pgs, pgs]
    refine flat_congr fun i hi => ?_
    have hi' := List.mem_range.1 hi
    have h1 := h.pg (tabs_top L (n + 1) t) hi' (n + 1)
    have h2 := h _ (tabs_top L (n + 1) t) i hi'
    have h3 := h.go (tabs_top L (n + 1) t) hi' (n + 1)
    simp only at h1 h2 h3
    rw [h1, h2, h3]
    by_cases hg : goB L t i (n + 1) = true
    · rw [go_not_page hg, if_pos hg, if_pos hg, (h.child hi' hg).pages]
    · rw [if_neg hg, if_neg hg]
theorem SameAt.reach {L K : List (Nat × Nat)} (a w : Nat) : ∀ {n t : Nat}, SameAt L K n t → reachT K a w n t = reachT L a w n t
  | 0, t, _ => rfl
  | n + 1, t, h => by
    rw [reachT, reachT]
    have hi := ixN_lt a (n + 1)
    have h2 := h _ (tabs_top L (n + 1) t) _ hi
    have h3 := h.go (tabs_top L (n + 1) t) hi (n + 1)
    simp only at h2 h3
    rw [h3, h2]
    by_cases hg : w < n + 1 ∧ goB L t (ixN a (n + 1)) (n + 1) = true
    · rw [if_pos hg, if_pos hg, (h.child hi hg.2).reach]
    · rw [if_neg hg, if_neg hg]

/-! the spot of an address -/
theorem reach_mem (L : List (Nat × Nat)) (a w : Nat) : ∀ (n t : Nat), reachT L a w n t ∈ tabs L n t
  | 0, t => by rw [reachT]; exact tabs_top L 0 t
  | n + 1, t => by
    rw [reachT]
    by_cases hg : w < n + 1 ∧ goB L t (ixN a (n + 1)) (n + 1) = true
    · rw [if_pos hg]; exact tabs_child (ixN_lt _ _) hg.2 (reach_mem L a w n _)
    · rw [if_neg hg]; exact tabs_top L (n + 1) t
/-! a word written: K is L but at the index j of the table s -/
def SetAt (L K : List (Nat × Nat)) (s j : Nat) (p : Pt) : Prop := ∀ t i, i < 512 → tE K t i = if t = s ∧ i = j then p else tE L t i
theorem SetAt.else_ {L K : List (Nat × Nat)} {s j : Nat} {p : Pt} (h : SetAt L K s j p) {n t : Nat} (hn : ∀ x ∈ tabs L n t, x.1 ≠ s) : SameAt L K n t := fun x hx i hi => by
  rw [h x.1 i hi, if_neg (fun e => hn x hx e.1)]
/-- where neither what was there nor what is written leads on, the tables are as they were -/
theorem SetAt.tab {L K : List (Nat × Nat)} {s j : Nat} {p : Pt} (h : SetAt L K s j p) {S n t l : Nat} (hT : TreeOk S L n t) (hs : (s, l) ∈ tabs L n t) (h0 : goB L s j l = false) (h1 : (linkB p && !badB p (l : Int)) = false) : tabs K n t = tabs L n t := by
  refine tabs_same fun x hx i hi => ?_
  by_cases e : x.1 = s ∧ i = j
  · have hl : x.2 = l := by have := hT.level hx hs e.1; rw [this]
    obtain ⟨x1, x2⟩ := x
    simp only at e hl ⊢
    obtain ⟨rfl, rfl⟩ := e
    subst hl
    rw [h0]
    refine ⟨?_, fun q => by cases q⟩
    unfold goB
    rw [h _ _ hi, if_pos ⟨rfl, rfl⟩]
    exact h1
  · have he := h x.1 i hi
    rw [if_neg e] at he
    exact ⟨by unfold goB; rw [he], fun _ => by rw [he]⟩
/-- an address' spot behind it: the same place; of another place, the same entry too -/
theorem SetAt.reach {L K : List (Nat × Nat)} {s j : Nat} {p : Pt} (h : SetAt L K s j p) {S l : Nat} (a : Nat) : ∀ {n t : Nat}, TreeOk S L n t → (s, l) ∈ tabs L n t → goB L s j l = false → (linkB p && !badB p (l : Int)) = false → reachT K a 0 n t = reachT L a 0 n t
  | 0, t, _, _, _, _ => rfl
  | n + 1, t, hT, hs, h0, h1 => by
    rw [reachT, reachT]
    have hi := ixN_lt a (n + 1)
    by_cases e : t = s ∧ ixN a (n + 1) = j
    · have hl : n + 1 = l := by have := hT.level (tabs_top L (n + 1) t) hs e.1; injection this
      have g0 : goB L t (ixN a (n + 1)) (n + 1) = false := by rw [e.1, e.2, hl]; exact h0
      have g1 : goB K t (ixN a (n + 1)) (n + 1) = false := by
        unfold goB
        rw [h _ _ hi, if_pos e, hl]
        exact h1
      rw [g0, g1]
      simp
    · have he := h t _ hi
      rw [if_neg e] at he
      have hg : goB K t (ixN a (n + 1)) (n + 1) = goB L t (ixN a (n + 1)) (n + 1) := by unfold goB; rw [he]
      rw [hg, he]
      by_cases hc : 0 < n + 1 ∧ goB L t (ixN a (n + 1)) (n + 1) = true
      · rw [if_pos hc, if_pos hc]
        obtain ⟨c1, c2⟩ := hT.child hi hc.2
        by_cases hin : ∃ x ∈ tabs L n (tE L t (ixN a (n + 1))).pp, x.1 = s
        · obtain ⟨x, hx, ex⟩ := hin
          have hxs := hT.level (tabs_child hi hc.2 hx) hs ex
          subst hxs
          exact h.reach a c1 hx h0 h1
        · exact (h.else_ fun x hx ex => hin ⟨x, hx, ex⟩).reach a 0
      · rw [if_neg hc, if_neg hc]
end Go.Proofs.YticbjiddbjgikaaDoor
/- Layer 19, as plain values: how many pages a tree has, where they lie, walks to them. No program. -/
namespace Go.Proofs.YticbjiddbjgikaaDoor
set_option linter.unusedVariables false
set_option linter.unusedSimpArgs false

/-! how many pages there are -/
def cntP (L : List (Nat × Nat)) (x : Nat × Nat) : Nat := ((List.range 512).map fun i => (pgB L x.1 i x.2).toNat).sum
theorem sum_add {α : Type} (f g : α → Nat) : ∀ l : List α, (l.map fun i => f i + g i).sum = (l.map f).sum + (l.map g).sum
  | [] => rfl
  | a :: l => by simp only [List.map_cons, List.sum_cons]; rw [sum_add f g l]; omega
theorem sum_flat {α : Type} (f : α → List Nat) : ∀ l : List α, (l.flatMap f).sum = (l.map fun i => (f i).sum).sum
  | [] => rfl
  | a :: l => by rw [List.flatMap_cons, List.sum_append_nat, sum_flat f l, List.map_cons, List.sum_cons]
theorem sum_same {α : Type} {f g : α → Nat} : ∀ {l : List α}, (∀ i ∈ l, f i = g i) → (l.map f).sum = (l.map g).sum
  | [], _ => rfl
  | a :: l, h => by
    simp only [List.map_cons, List.sum_cons]
    rw [h a List.mem_cons_self, sum_same fun i hi => h i (List.mem_cons_of_mem _ hi)]
/-- sums that differ at one element alone -/
theorem sum_one {α : Type} {f g : α → Nat} {o n : Nat} {k : α} : ∀ {l : List α}, l.Nodup → k ∈ l → (∀ i ∈ l, i ≠ k → f i = g i) → f k + o = g k + n → (l.map f).sum + o = (l.map g).sum + n
  | [], _, h, _, _ => by cases h
  | a :: l, hnd, hk, hne, he => by
    rw [List.nodup_cons] at hnd
    simp only [List.map_cons, List.sum_cons]
    rcases List.mem_cons.1 hk with rfl | hk'
    · rw [sum_same (f := f) (g := g) fun i hi => hne i (List.mem_cons_of_mem _ hi) fun e => hnd.1 (e ▸ hi)]
      omega
    · have h1 := hne a List.mem_cons_self fun e => hnd.1 (e ▸ hk')
      have h2 := sum_one hnd.2 hk' (fun i hi => hne i (List.mem_cons_of_mem _ hi)) he
      omega
theorem pgs_len (L : List (Nat × Nat)) : ∀ (n t b : Nat), (pgs L n t b).length = ((tabs L n t).map (cntP L)).sum
  | 0, t, b => by
    rw [pgs, tabs, List.length_flatMap]
    simp only [List.map_cons, List.map_nil, List.sum_cons, List.sum_nil, Nat.add_zero]
    unfold cntP
    refine sum_same fun i hi => ?_
    cases pgB L t i 0 <;> rfl
  | n + 1, t, b => by
    rw [pgs, tabs, List.length_flatMap, List.map_cons, List.sum_cons, List.map_flatMap, sum_flat]
    unfold cntP
    rw [← sum_add]
    refine sum_same fun i hi => ?_
    by_cases hg : goB L t i (n + 1) = true
    · rw [go_not_page hg, hg]
      simp only [if_true, Bool.false_eq_true, if_false]
      rw [pgs_len L n]
      show _ = Bool.toNat false + _
      rw [show Bool.toNat false = 0 from rfl, Nat.zero_add]
      rfl
    · cases hp : pgB L t i (n + 1)
      · simp only [Bool.false_eq_true, if_false]
        rw [if_neg hg, if_neg hg]; rfl
      · simp only [if_true]
        rw [if_neg hg]; rfl
theorem nodup_of_map {α β : Type} {f : α → β} : ∀ {l : List α}, (l.map f).Nodup → l.Nodup
  | [], _ => List.nodup_nil
  | a :: l, h => by
    rw [List.map_cons, List.nodup_cons] at h
    rw [List.nodup_cons]
    exact ⟨fun q => h.1 (List.mem_map.2 ⟨a, q, rfl⟩), nodup_of_map h.2⟩
/-- a word written that leads on neither ahead nor behind: so many pages more, so many less -/
theorem SetAt.many {L K : List (Nat × Nat)} {s j : Nat} {p : Pt} (h : SetAt L K s j p) {S n t l : Nat} (hj : j < 512) (hT : TreeOk S L n t) (hs : (s, l) ∈ tabs L n t) (h0 : goB L s j l = false) (h1 : (linkB p && !badB p (l : Int)) = false) (b c : Nat) :
    (pgs K n t b).length + (pgB L s j l).toNat = (pgs L n t c).length + (leafB p && !badB p (l : Int)).toNat := by
  rw [pgs_len, pgs_len, h.tab hT hs h0 h1]
  refine sum_one (k := (s, l)) (nodup_of_map hT.nd) hs (fun x hx hne => ?_) ?_
  · unfold cntP
    refine sum_same fun i hi => ?_
    have hne2 : ¬ (x.1 = s ∧ i = j) := fun e => hne (hT.level hx hs e.1)
    have he := h x.1 i (List.mem_range.1 hi)
    rw [if_neg hne2] at he
    unfold pgB; rw [he]
  · unfold cntP
    refine sum_one (k := j) List.nodup_range (List.mem_range.2 hj) (fun i hi hne => ?_) ?_
    · have he := h s i (List.mem_range.1 hi)
      rw [if_neg (fun e => hne e.2)] at he
      unfold pgB; rw [he]
    · have he := h s j hj
      rw [if_pos ⟨rfl, rfl⟩] at he
      show (pgB K s j l).toNat + _ = _
      have hk : pgB K s j l = (leafB p && !badB p (l : Int)) := by unfold pgB; rw [he]
      rw [hk]
      show _ = (pgB L s j l).toNat + _
      omega

/-! where they lie -/
theorem szN_dvd {k n : Nat} (h : k ≤ n) : szN k ∣ szN n := by
  unfold szN
  exact Nat.mul_dvd_mul_left _ (Nat.pow_dvd_pow _ h)
structure PgIn (L : List (Nat × Nat)) (n b : Nat) (x : Nat × Nat × Pt) : Prop where
  lo : b ≤ x.1
  hi : x.1 + szN x.2.1 ≤ b + szN (n + 1)
  lv : x.2.1 ≤ n
  al : szN x.2.1 ∣ x.1 - b
  lf : leafB x.2.2 = true
  nb : badB x.2.2 (x.2.1 : Int) = false
  en : ∃ t i, i < 512 ∧ x.2.2 = tE L t i
theorem blk_le {n i b : Nat} (hi : i < 512) : b + i * szN n + szN n ≤ b + szN (n + 1) := by
  rw [szN_succ]
  have : (i + 1) * szN n ≤ 512 * szN n := Nat.mul_le_mul_right _ (by omega)
  rw [Nat.add_mul, Nat.one_mul] at this
  omega
theorem PgIn.up {L : List (Nat × Nat)} {n i b : Nat} {x : Nat × Nat × Pt} (hi : i < 512) (h : PgIn L n (b + i * szN (n + 1)) x) : PgIn L (n + 1) b x := by
  have hb := blk_le (n := n + 1) (b := b) hi
  refine ⟨Nat.le_trans (Nat.le_add_right _ _) h.lo, Nat.le_trans h.hi hb, Nat.le_succ_of_le h.lv, ?_, h.lf, h.nb, h.en⟩
  have e : x.1 - b = (x.1 - (b + i * szN (n + 1))) + i * szN (n + 1) := by have := h.lo; omega
  rw [e]
  exact Nat.dvd_add h.al (Nat.dvd_trans (szN_dvd (Nat.le_succ_of_le h.lv)) (Nat.dvd_mul_left _ _))
/-! walks -/
theorem siz_szN (n : Nat) : sizI (n : Int) = (szN n : Int) := by unfold sizI szN; rw [Int.toNat_natCast]
theorem idx_ixN (a n : Nat) : (idxI (a : Int) (n : Int)).toNat = ixN a n := by
  unfold idxI ixN
  rw [siz_szN]
  have : ((a : Int) / (szN n : Int) % 512) = ((a / szN n % 512 : Nat) : Int) := by rw [Int.natCast_emod, Int.natCast_ediv]; rfl
  rw [this, Int.toNat_natCast]
end Go.Proofs.YticbjiddbjgikaaDoor
