/- Buffers as lists of sets: the set of an entry, right, found, put, all; and what follows. No program. -/
import Derived.Test.YtlhoedpencmikaaGreatDoorGthir
namespace Go.Proofs.YtlhoedpencmikaaGreatDoor
set_option linter.unusedVariables false
set_option linter.unusedSimpArgs false

/-- the set of a page number, of a level, in a buffer of n sets -/
def ixT (n : Nat) (v l : Int) : Nat := (v / pagI l % (n : Int)).toNat
def sT (L : List St) (i : Nat) : St := L.getD i s0
def inT (n i : Nat) (e : En) : Bool := !e.v || decide (ixT n e.vp e.l = i)
/-- a set is right, and stands where it is -/
def rightAt (n i : Nat) (s : St) : Bool := rightS s && (inT n i s.ws.a && (inT n i s.ws.b && (inT n i s.ws.c && inT n i s.ws.d)))
def rightT (L : List St) : Bool := decide (L.length ≤ 16) && (List.range L.length).all fun i => rightAt L.length i (sT L i)
/-- is it found at that level? -/
def lvT (n a : Int) (L : List St) (l : Nat) : Bool := fbW (hitE n a (l : Int)) (sT L (ixT L.length (numI a) (l : Int))).ws
def flT (n a : Int) (L : List St) : Nat := if lvT n a L 0 then 0 else if lvT n a L 1 then 1 else 2
def okT (n a : Int) (L : List St) : Bool := decide (0 < L.length) && (lvT n a L 0 || (lvT n a L 1 || lvT n a L 2))
def seT (n a : Int) (L : List St) : Nat := if okT n a L then ixT L.length (numI a) (flT n a L) else 0
def wyT (n a : Int) (L : List St) : Nat := if okT n a L then fiW (hitE n a (flT n a L)) (sT L (seT n a L)).ws else 0
def enT (n a : Int) (L : List St) : En := if okT n a L then (sT L (seT n a L)).ws.at (wyT n a L) else e0
def putT (e : En) (v : Int) (L : List St) : List St := if L.length = 0 then L else L.set (ixT L.length e.vp e.l) (putS e v (sT L (ixT L.length e.vp e.l)))
def useT (L : List St) (i w : Nat) : List St := L.set i ⟨(sT L i).ws, toN (sT L i).t w⟩
def dropT (L : List St) (i w : Nat) : List St := L.set i ((sT L i).put w e0)
/-- the entries of a set that are Valid, way by way -/
def lsW (s : Ws) : List En := [s.a, s.b, s.c, s.d].filter (·.v)
def allT (L : List St) : List En := L.flatMap fun s => lsW s.ws

theorem ix_lt {n : Nat} (h : 0 < n) (v l : Int) : ixT n v l < n := by
  unfold ixT
  have h1 := Int.emod_lt_of_pos (v / pagI l) (show (0 : Int) < n by omega)
  have h2 := Int.emod_nonneg (v / pagI l) (show (n : Int) ≠ 0 by omega)
  omega
theorem sT_set {L : List St} {i j : Nat} (hi : i < L.length) (s : St) : sT (L.set i s) j = if j = i then s else sT L j := by
  unfold sT
  by_cases h : j = i
  · subst h; rw [if_pos rfl]; simp [List.getD, hi]
  · rw [if_neg h]; simp only [List.getD]; rw [List.getElem?_set_ne (fun h2 => h h2.symm)]
theorem in_e0 (n i : Nat) : inT n i e0 = true := by unfold inT; rw [e0_v]; rfl
theorem in_own (n : Nat) (e : En) : inT n (ixT n e.vp e.l) e = true := by unfold inT; simp
theorem in_at {n i : Nat} {s : St} (h : rightAt n i s = true) {w : Nat} (hw : w < 4) : inT n i (s.ws.at w) = true := by
  unfold rightAt at h
  simp only [Bool.and_eq_true] at h
  obtain ⟨_, h1, h2, h3, h4⟩ := h
  rcases k_four hw with rfl | rfl | rfl | rfl
  · exact h1
  · exact h2
  · exact h3
  · exact h4
theorem rightAt_of {n i : Nat} {s : St} (h : rightS s = true) (k : ∀ w, w < 4 → inT n i (s.ws.at w) = true) : rightAt n i s = true := by
  unfold rightAt
  simp only [Bool.and_eq_true]
  exact ⟨h, k 0 (by decide), k 1 (by decide), k 2 (by decide), k 3 (by decide)⟩
theorem rightAt_s {n i : Nat} {s : St} (h : rightAt n i s = true) : rightS s = true := by
  unfold rightAt at h
  simp only [Bool.and_eq_true] at h
  exact h.1
theorem rt_len {L : List St} (h : rightT L = true) : L.length ≤ 16 := by
  unfold rightT at h
  simp only [Bool.and_eq_true, decide_eq_true_iff] at h
  exact h.1
theorem rt_at {L : List St} (h : rightT L = true) {i : Nat} (hi : i < L.length) : rightAt L.length i (sT L i) = true := by
  unfold rightT at h
  simp only [Bool.and_eq_true, List.all_eq_true, List.mem_range] at h
  exact h.2 i hi
theorem rt_of {L : List St} (h : L.length ≤ 16) (k : ∀ i, i < L.length → rightAt L.length i (sT L i) = true) : rightT L = true := by
  unfold rightT
  simp only [Bool.and_eq_true, List.all_eq_true, List.mem_range, decide_eq_true_iff]
  exact ⟨h, k⟩
theorem rt_long {L : List St} (h : 16 < L.length) : rightT L = false := by
  cases hr : rightT L
  · rfl
  · have := rt_len hr; omega
theorem rt_no {L : List St} {i : Nat} (hi : i < L.length) (h : rightAt L.length i (sT L i) = false) : rightT L = false := by
  cases hr : rightT L
  · rfl
  · rw [rt_at hr hi] at h; cases h
theorem rt_s {L : List St} (h : rightT L = true) {i : Nat} (hi : i < L.length) : rightS (sT L i) = true := rightAt_s (rt_at h hi)
theorem rt_may {L : List St} (h : rightT L = true) {i w : Nat} (hi : i < L.length) (hw : w < 4) : mayE ((sT L i).ws.at w) = true := right_may (rt_s h hi) hw
/-- one set changed for a right one whose entries are in their place -/
theorem rt_set {L : List St} (h : rightT L = true) {i : Nat} (hi : i < L.length) {s : St} (hs : rightAt L.length i s = true) : rightT (L.set i s) = true := by
  refine rt_of (by rw [List.length_set]; exact rt_len h) fun j hj => ?_
  rw [List.length_set] at hj ⊢
  rw [sT_set hi]
  by_cases hji : j = i
  · rw [if_pos hji, hji]; exact hs
  · rw [if_neg hji]; exact rt_at h hj
theorem ra_put {n i : Nat} {s : St} (h : rightAt n i s = true) {e : En} (he : mayE e = true) (hin : inT n i e = true) (v : Int) : rightAt n i (putS e v s) = true := by
  have hr := rightAt_s h
  refine rightAt_of (right_putS hr he v) fun w hw => ?_
  rw [putS_at (right_t hr) hw]
  split
  · exact hin
  split
  · exact in_e0 n i
  · exact in_at h hw
theorem ra_drop {n i : Nat} {s : St} (h : rightAt n i s = true) {w : Nat} (hw : w < 4) : rightAt n i (s.put w e0) = true := by
  refine rightAt_of (right_put (rightAt_s h) may_e0 hw) fun k hk => ?_
  show inT n i ((s.ws.put w e0).at k) = true
  rw [at_put hw hk]
  split
  · exact in_e0 n i
  · exact in_at h hk
theorem putT_pos {e : En} {v : Int} {L : List St} (h : 0 < L.length) : putT e v L = L.set (ixT L.length e.vp e.l) (putS e v (sT L (ixT L.length e.vp e.l))) := by unfold putT; rw [if_neg (by omega)]
theorem putT_nil {e : En} {v : Int} {L : List St} (h : L.length = 0) : putT e v L = L := by unfold putT; rw [if_pos h]
theorem putT_len (e : En) (v : Int) (L : List St) : (putT e v L).length = L.length := by unfold putT; split <;> simp
theorem rt_put {L : List St} (h : rightT L = true) {e : En} (he : mayE e = true) (v : Int) : rightT (putT e v L) = true := by
  by_cases h0 : L.length = 0
  · rw [putT_nil h0]; exact h
  · have hp : 0 < L.length := by omega
    rw [putT_pos hp]
    exact rt_set h (ix_lt hp _ _) (ra_put (rt_at h (ix_lt hp _ _)) he (in_own _ e) v)
theorem rt_drop {L : List St} (h : rightT L = true) {i w : Nat} (hi : i < L.length) (hw : w < 4) : rightT (dropT L i w) = true := rt_set h hi (ra_drop (rt_at h hi) hw)

/-! what is found -/
theorem ok_pos {n a : Int} {L : List St} (h : okT n a L = true) : 0 < L.length ∧ flT n a L ≤ 2 ∧ lvT n a L (flT n a L) = true := by
  unfold okT at h
  simp only [Bool.and_eq_true, decide_eq_true_iff, Bool.or_eq_true] at h
  obtain ⟨h1, h2⟩ := h
  refine ⟨h1, ?_⟩
  unfold flT
  cases h0 : lvT n a L 0
  · cases h3 : lvT n a L 1
    · simp only [Bool.false_eq_true, if_false]
      rcases h2 with h | h | h
      · rw [h0] at h; cases h
      · rw [h3] at h; cases h
      · exact ⟨by decide, h⟩
    · simp only [Bool.false_eq_true, if_false, if_true]; exact ⟨by decide, h3⟩
  · simp only [if_true]; exact ⟨by decide, h0⟩
/-- what holds of what is found -/
structure Found (n a : Int) (L : List St) (e : En) (i w l : Nat) : Prop where
  il : i < L.length
  wl : w < 4
  ll : l ≤ 2
  own : (sT L i).ws.at w = e
  hit : hitE n a (l : Int) e = true
  ix : i = ixT L.length (numI a) l
theorem hit_split {n a l : Int} {e : En} (h : hitE n a l e = true) : e.l = l ∧ matE e n a = true := by
  unfold hitE at h
  rw [Bool.and_eq_true, beq_iff_eq] at h
  exact h
theorem mat_split {e : En} {n a : Int} (h : matE e n a = true) : covE e a = true ∧ (e.g = true ∨ (e.n : Int) = n) := by
  unfold matE at h
  rw [Bool.and_eq_true, Bool.or_eq_true, beq_iff_eq] at h
  exact h
theorem cov_valid {e : En} {a : Int} (h : covE e a = true) : e.v = true := by
  unfold covE at h
  rw [Bool.and_eq_true] at h
  exact h.1
theorem found {n a : Int} {L : List St} (h : okT n a L = true) : Found n a L (enT n a L) (seT n a L) (wyT n a L) (flT n a L) := by
  obtain ⟨h1, h2, h3⟩ := ok_pos h
  have hs : seT n a L = ixT L.length (numI a) (flT n a L) := by unfold seT; rw [if_pos h]
  have hw : wyT n a L = fiW (hitE n a (flT n a L)) (sT L (seT n a L)).ws := by unfold wyT; rw [if_pos h]
  have he : enT n a L = (sT L (seT n a L)).ws.at (wyT n a L) := by unfold enT; rw [if_pos h]
  have hf : fbW (hitE n a (flT n a L)) (sT L (seT n a L)).ws = true := by rw [hs]; unfold lvT at h3; exact h3
  obtain ⟨k1, k2, k3⟩ := fi_is hf
  exact ⟨by rw [hs]; exact ix_lt h1 _ _, by rw [hw]; exact k1, h2, he.symm, by rw [he, hw]; exact k2, hs⟩
/-- what is at its place is found, or something of a lesser level -/
theorem found_by {n a : Int} {L : List St} {l w : Nat} (hl : l ≤ 2) (hw : w < 4) (hp : 0 < L.length) (h : hitE n a (l : Int) ((sT L (ixT L.length (numI a) l)).ws.at w) = true) : okT n a L = true ∧ flT n a L ≤ l := by
  have hf : lvT n a L l = true := (fi_le hw h).1
  have hok : okT n a L = true := by
    unfold okT
    simp only [Bool.and_eq_true, decide_eq_true_iff, Bool.or_eq_true]
    refine ⟨hp, ?_⟩
    rcases (by omega : l = 0 ∨ l = 1 ∨ l = 2) with rfl | rfl | rfl
    · exact .inl hf
    · exact .inr (.inl hf)
    · exact .inr (.inr hf)
  refine ⟨hok, ?_⟩
  unfold flT
  rcases (by omega : l = 0 ∨ l = 1 ∨ l = 2) with rfl | rfl | rfl
  · rw [if_pos hf]; exact Nat.le_refl _
  · rw [if_pos hf]; split <;> omega
  · split
    · omega
    · split <;> omega
/-- the page number of an address that an entry covers has the entry's set -/
theorem cov_ix {e : En} (hm : mayE e = true) {a : Int} (h : covE e a = true) (n : Nat) : ixT n (numI a) e.l = ixT n e.vp e.l := by
  have hv := cov_valid h
  have k := may_v hm hv
  unfold covE at h
  rw [Bool.and_eq_true, Bool.and_eq_true, beq_iff_eq] at h
  have hn := h.2.2
  rw [nb_eq k.l0 k.l2] at hn
  unfold ixT
  have hd : numI a / pagI e.l = (e.vp : Int) / pagI e.l := by
    rw [hn]
    rcases pag_is k.l0 k.l2 with ⟨_, h⟩ | ⟨_, h⟩ | ⟨_, h⟩ <;> rw [h] <;> omega
  rw [hd]
attribute [irreducible] ixT sT inT rightAt rightT lvT flT okT seT wyT enT putT useT dropT lsW allT
end Go.Proofs.YtlhoedpencmikaaGreatDoor
/- What follows of buffers: what is put is found, one set changes, no two entries are of the same page, of whom what is found is. No program. -/
namespace Go.Proofs.YtlhoedpencmikaaGreatDoor
set_option linter.unusedVariables false
set_option linter.unusedSimpArgs false

theorem hit_of {n a l : Int} {e : En} (h1 : e.l = l) (h2 : covE e a = true) (h3 : e.g = true ∨ (e.n : Int) = n) : hitE n a l e = true := by
  unfold hitE matE
  rw [Bool.and_eq_true, beq_iff_eq, Bool.and_eq_true, Bool.or_eq_true, beq_iff_eq]
  exact ⟨h1, h2, h3⟩
theorem enT_lv {n a : Int} {L : List St} (h : okT n a L = true) : (enT n a L).l = flT n a L := (hit_split (found h).hit).1
/-- P14.4: what is put is found -/
theorem put_cov {L : List St} (hr : rightT L = true) (hp : 0 < L.length) {e : En} (he : mayE e = true) (v : Int) {a : Int} (hc : covE e a = true) : okT e.n a (putT e v L) = true ∧ (enT e.n a (putT e v L)).l ≤ e.l := by
  have hv := cov_valid hc
  have k := may_v he hv
  have k0 := k.l0
  have k2 := k.l2
  have hl : ((e.l.toNat : Nat) : Int) = e.l := by omega
  have hx := ix_lt hp (e.vp : Int) e.l
  have hw := way_lt (e := e) (v := v) (right_t (rt_s hr hx))
  have hat : (sT (putT e v L) (ixT (putT e v L).length (numI a) (e.l.toNat : Nat))).ws.at (wayS e v (sT L (ixT L.length e.vp e.l))) = e := by
    rw [putT_len, hl, cov_ix he hc, putT_pos hp, sT_set hx, if_pos rfl, putS_at (right_t (rt_s hr hx)) hw, if_pos rfl]
  have hf := found_by (n := e.n) (a := a) (L := putT e v L) (l := e.l.toNat) (by omega) hw (by rw [putT_len]; exact hp) (by rw [hat]; exact hit_of hl.symm hc (.inr rfl))
  refine ⟨hf.1, ?_⟩
  rw [enT_lv hf.1]
  omega
/-! how many entries there are -/
def cntW (s : Ws) : Nat := s.a.v.toNat + s.b.v.toNat + s.c.v.toNat + s.d.v.toNat
theorem ls_len (s : Ws) : (lsW s).length = cntW s := by
  unfold lsW cntW
  cases ha : s.a.v <;> cases hb : s.b.v <;> cases hc : s.c.v <;> cases hd : s.d.v <;> simp [ha, hb, hc, hd]
theorem cnt_le (s : Ws) : cntW s ≤ 4 := by
  unfold cntW
  cases s.a.v <;> cases s.b.v <;> cases s.c.v <;> cases s.d.v <;> decide
theorem all_le : ∀ L : List St, (allT L).length ≤ 4 * L.length
  | [] => by unfold allT; simp
  | x :: L => by
    have ih := all_le L
    unfold allT at ih ⊢
    rw [List.flatMap_cons, List.length_append, ls_len, List.length_cons]
    have := cnt_le x.ws
    omega

/-! no two of the same page -/
theorem mem_ls {s : Ws} {e : En} (h : e ∈ lsW s) : e.v = true ∧ ∃ w, w < 4 ∧ s.at w = e := by
  unfold lsW at h
  rw [List.mem_filter] at h
  refine ⟨h.2, ?_⟩
  have h1 := h.1
  simp only [List.mem_cons, List.not_mem_nil, or_false] at h1
  rcases h1 with rfl | rfl | rfl | rfl
  · exact ⟨0, by decide, rfl⟩
  · exact ⟨1, by decide, rfl⟩
  · exact ⟨2, by decide, rfl⟩
  · exact ⟨3, by decide, rfl⟩
theorem ls_mem {s : Ws} {w : Nat} (hw : w < 4) (hv : (s.at w).v = true) : s.at w ∈ lsW s := by
  unfold lsW
  rw [List.mem_filter]
  refine ⟨?_, hv⟩
  rcases k_four hw with rfl | rfl | rfl | rfl <;> simp [at_0, at_1, at_2, at_3]
theorem all_mem {L : List St} {i w : Nat} (hi : i < L.length) (hw : w < 4) (hv : ((sT L i).ws.at w).v = true) : (sT L i).ws.at w ∈ allT L := by
  unfold allT
  rw [List.mem_flatMap]
  refine ⟨sT L i, ?_, ls_mem hw hv⟩
  unfold sT
  simp [List.getD, hi]
/-! of whom is what is found -/
theorem found_mat {n a : Int} {L : List St} (h : okT n a L = true) : matE (enT n a L) n a = true := (hit_split (found h).hit).2
theorem found_mem {n a : Int} {L : List St} (h : okT n a L = true) : enT n a L ∈ allT L ∧ covE (enT n a L) a = true := by
  have F := found h
  have hm := mat_split (hit_split F.hit).2
  refine ⟨?_, hm.1⟩
  rw [← F.own]
  exact all_mem F.il F.wl (by rw [F.own]; exact cov_valid hm.1)
end Go.Proofs.YtlhoedpencmikaaGreatDoor
