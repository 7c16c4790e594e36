/- A region in whatever order: by what holds at each set of operations that have come up (an invariant), each operation once. -/
import Derived.Test.YtlhoedpencmikaaGreatDoorGagg
namespace Go.Proofs.YtlhoedpencmikaaGreatDoor
open Go.RowKit
set_option linter.unusedVariables false
set_option linter.unusedSimpArgs false

/-- how many are to come -/
def toCome (l : Array Bool) : Nat := (l.toList.filter fun b => !b).length
theorem toCome_set : ∀ (l : List Bool) (k : Nat), l[k]? = some false → ((l.set k true).filter fun b => !b).length + 1 = (l.filter fun b => !b).length
  | [], k, h => by simp at h
  | b :: l, 0, h => by
    have : b = false := by simpa using h
    subst this
    simp []
  | b :: l, k + 1, h => by
    have ih := toCome_set l k (by simpa using h)
    rw [List.set_cons_succ, List.filter_cons, List.filter_cons]
    cases b
    · simp only [Bool.not_false, if_true, List.length_cons]; omega
    · simp only [Bool.not_true, Bool.false_eq_true, if_false]; exact ih
theorem inv_any {P : Program} {l : List Oper} {Q : Exit → Act → World → Prop} (I : Array Bool → Act → World → Prop)
    (hstep : ∀ m k a w, m.size = l.length → k ∈ Region.ready .any l.toArray m → I m a w → wpOp P l.toArray Q k (fun a' w' => I (m.setIfInBounds k true) a' w') a w)
    (hend : ∀ m a w, m.size = l.length → Region.ready .any l.toArray m = [] → I m a w → Q .normal a w) :
    ∀ (n : Nat) (m : Array Bool) (a : Act) (w : World), m.size = l.length → toCome m = n → I m a w → wpAnyH P .any l.toArray Q (fun _ => True) n m a w
  | 0, m, a, w, hs, hn, h => by
    have hr : Region.ready .any l.toArray m = [] := by
      refine List.eq_nil_iff_forall_not_mem.2 fun k hk => ?_
      obtain ⟨h1, o, ho, -⟩ := mem_ready.1 hk
      have hkl : k < m.size := by rw [hs]; simpa using (Array.getElem?_eq_some_iff.1 ho).1
      have hf : m.toList[k]? = some false := by
        rw [Array.getElem?_toList, Array.getElem?_eq_getElem hkl]
        simpa [Array.getD, hkl] using h1
      unfold toCome at hn
      have := toCome_set m.toList k hf
      omega
    exact ⟨hr, hend m a w hs hr h⟩
  | n + 1, m, a, w, hs, hn, h => by
    refine ⟨fun hr => hend m a w hs hr h, fun k hk => ?_⟩
    obtain ⟨h1, o, ho, -⟩ := mem_ready.1 hk
    have hkl : k < m.size := by rw [hs]; simpa using (Array.getElem?_eq_some_iff.1 ho).1
    have hf : m.toList[k]? = some false := by
      rw [Array.getElem?_toList, Array.getElem?_eq_getElem hkl]
      simpa [Array.getD, hkl] using h1
    refine wpOp_mono (fun a' w' h' => ⟨trivial, inv_any I hstep hend n _ a' w' (by rw [Array.size_setIfInBounds]; exact hs) ?_ h'⟩) (hstep m k a w hs hk h)
    unfold toCome at hn ⊢
    rw [Array.toList_setIfInBounds]
    have := toCome_set m.toList k hf
    omega
/-- **A REGION BY AN INVARIANT.** -/
theorem wp_region_inv (I : Array Bool → Act → World → Prop) {id : Nat} {P : Program} {Q : Exit → Act → World → Prop} {a : Act} {w : World} {l : List Oper} (hm : P.follows .mixedOrders = true)
    (h0 : I (Array.replicate l.length false) a w.drew)
    (hstep : ∀ m k a w, m.size = l.length → k ∈ Region.ready .any l.toArray m → I m a w → wpOp P l.toArray (Calm Q) k (fun a' w' => I (m.setIfInBounds k true) a' w') a w)
    (hend : ∀ m a w, m.size = l.length → Region.ready .any l.toArray m = [] → I m a w → Q .normal a w) : (Code.region id l.toArray true).wp P Q a w := by
  refine Code.wp_mono Calm.imp (wp_region_held (S := fun _ => True) hm ?_)
  have key := inv_any (P := P) (Q := Calm Q) I hstep (fun m a w h1 h2 h3 => hend m a w h1 h2 h3) l.length (Array.replicate l.length false) a w.drew (by simp) (by unfold toCome; simp) h0
  simpa using key

theorem put_some (a : Act) (i : Nat) (v : Value) : a.put (some i) v = { a with tmps := a.tmps.setIfInBounds i v } := rfl
def apartD (d : Option Nat) (ds : List (Option Nat)) : Bool := match d with
  | none => true
  | some i => !ds.contains (some i)
def distD : List (Option Nat) → Bool
  | [] => true
  | d :: r => apartD d r && distD r
theorem put_comm {d e : Option Nat} (h : ∀ i, d = some i → e ≠ some i) (a : Act) (u v : Value) : (a.put d u).put e v = (a.put e v).put d u := by
  cases d with
  | none => rfl
  | some i => cases e with
    | none => rfl
    | some j =>
      have hij : i ≠ j := fun hh => h i rfl (by rw [hh])
      simp only [put_some]
      rw [Array.setIfInBounds_comm _ _ hij]
/-- the acts of those that have come up -/
def putsB : List (Option Nat × Value) → List Bool → Act → Act
  | [], _, a => a
  | _ :: _, [], a => a
  | p :: r, b :: bs, a => putsB r bs (if b then a.put p.1 p.2 else a)
theorem putsB_put : ∀ (vs : List (Option Nat × Value)) (bs : List Bool) (a : Act) (d : Option Nat) (v : Value), apartD d (vs.map (·.1)) = true → (putsB vs bs a).put d v = putsB vs bs (a.put d v)
  | [], _, _, _, _, _ => rfl
  | _ :: _, [], _, _, _, _ => rfl
  | p :: r, b :: bs, a, d, v, h => by
    have h1 : apartD d (r.map (·.1)) = true := by
      unfold apartD at h ⊢
      cases d with
      | none => rfl
      | some i => simp at h ⊢; exact h.2
    have h2 : ∀ i, d = some i → p.1 ≠ some i := fun i hi => by
      subst hi
      unfold apartD at h
      simp at h
      exact fun hq => h.1 hq.symm
    rw [putsB, putsB, putsB_put r bs _ d v h1]
    cases b
    · rfl
    · simp only [if_true]
      congr 1
      cases d with
      | none => rfl
      | some i => exact put_comm (d := p.1) (e := some i) (fun j hj hq => h2 i rfl (by rw [hj, ← hq])) a p.2 v
theorem putsB_congr : ∀ (vs us : List (Option Nat × Value)) (bs : List Bool) (a : Act), us.length = vs.length → (∀ j : Nat, bs[j]? = some true → us[j]? = vs[j]?) → putsB us bs a = putsB vs bs a
  | [], [], _, _, _, _ => rfl
  | [], _ :: _, _, _, h, _ => by simp at h
  | _ :: _, [], _, _, h, _ => by simp at h
  | _ :: _, _ :: _, [], _, _, _ => rfl
  | p :: r, q :: u, b :: bs, a, hl, h => by
    have ih := fun a => putsB_congr r u bs a (by simpa using hl) (fun j hj => by have := h (j + 1) (by simpa using hj); simpa using this)
    rw [putsB, putsB]
    cases b
    · exact ih _
    · have h0 := h 0 (by simp)
      have : q = p := by simpa using h0
      rw [this]; exact ih _
theorem putsB_step : ∀ (vs us : List (Option Nat × Value)) (bs : List Bool) (k : Nat) (p : Option Nat × Value) (a : Act), us.length = vs.length → us.map (·.1) = vs.map (·.1) → distD (vs.map (·.1)) = true → bs[k]? = some false → us[k]? = some p →
    (∀ j : Nat, bs[j]? = some true → us[j]? = vs[j]?) → (putsB vs bs a).put p.1 p.2 = putsB us (bs.set k true) a
  | [], us, bs, k, p, a, hl, _, _, _, hk, _ => by
    have : us = [] := List.eq_nil_of_length_eq_zero (by simpa using hl)
    subst this; simp at hk
  | q :: r, [], bs, k, p, a, hl, _, _, _, _, _ => by simp at hl
  | q :: r, x :: u, [], k, p, a, _, _, _, hb, _, _ => by simp at hb
  | q :: r, x :: u, b :: bs, 0, p, a, hl, hm, hd, hb, hk, h => by
    have hb' : b = false := by simpa using hb
    have hx : x = p := by simpa using hk
    subst hb' hx
    simp only [List.map_cons, List.cons.injEq] at hm
    simp only [List.map_cons, distD, Bool.and_eq_true] at hd
    rw [List.set_cons_zero, putsB, putsB]
    simp only [Bool.false_eq_true, if_false, if_true]
    rw [putsB_put r bs a x.1 x.2 (by rw [hm.1]; exact hd.1)]
    exact (putsB_congr r u bs _ (by simpa using hl) (fun j hj => by have := h (j + 1) (by simpa using hj); simpa using this)).symm
  | q :: r, x :: u, b :: bs, k + 1, p, a, hl, hm, hd, hb, hk, h => by
    simp only [List.map_cons, List.cons.injEq] at hm
    simp only [List.map_cons, distD, Bool.and_eq_true] at hd
    have ih := fun a => putsB_step r u bs k p a (by simpa using hl) hm.2 hd.2 (by simpa using hb) (by simpa using hk) (fun j hj => by have := h (j + 1) (by simpa using hj); simpa using this)
    rw [List.set_cons_succ, putsB, putsB]
    cases b
    · exact ih _
    · have h0 := h 0 (by simp)
      have : x = q := by simpa using h0
      rw [this]; exact ih _
/-- a slot that no operation writes -/
theorem putsB_out : ∀ (vs : List (Option Nat × Value)) (bs : List Bool) (a : Act) (j : Nat), apartD (some j) (vs.map (·.1)) = true → (putsB vs bs a).tmps[j]? = a.tmps[j]?
  | [], _, _, _, _ => rfl
  | _ :: _, [], _, _, _ => rfl
  | p :: r, b :: bs, a, j, h => by
    unfold apartD at h
    simp at h
    rw [putsB, putsB_out r bs _ j (by unfold apartD; simp; exact h.2)]
    cases b
    · rfl
    · simp only [if_true]
      cases hp : p.1 with
      | none => rfl
      | some i =>
        rw [put_some]
        show (a.tmps.setIfInBounds i p.2)[j]? = a.tmps[j]?
        rw [Array.getElem?_setIfInBounds, if_neg (fun e => h.1 (by rw [hp, e]))]
/-- a slot that one of those that have come up has written -/
theorem putsB_at : ∀ (vs : List (Option Nat × Value)) (bs : List Bool) (a : Act) (i j : Nat) (v : Value), distD (vs.map (·.1)) = true → vs[i]? = some (some j, v) → bs[i]? = some true → j < a.tmps.size → (putsB vs bs a).tmps[j]? = some v
  | [], _, _, i, j, v, _, h, _, _ => by simp at h
  | _ :: _, [], _, i, j, v, _, _, h, _ => by simp at h
  | p :: r, b :: bs, a, 0, j, v, hd, hv, hb, hj => by
    have hp : p = (some j, v) := by simpa using hv
    have hb' : b = true := by simpa using hb
    subst hp hb'
    simp only [List.map_cons, distD, Bool.and_eq_true] at hd
    rw [putsB, putsB_out r bs _ j hd.1]
    simp only [if_true, put_some]
    rw [Array.getElem?_setIfInBounds, if_pos rfl, if_pos hj]
  | p :: r, b :: bs, a, i + 1, j, v, hd, hv, hb, hj => by
    simp only [List.map_cons, distD, Bool.and_eq_true] at hd
    rw [putsB]
    refine putsB_at r bs _ i j v hd.2 (by simpa using hv) (by simpa using hb) ?_
    cases b
    · exact hj
    · simp only [if_true]
      cases p.1 with
      | none => exact hj
      | some q => rw [put_some]; simpa using hj
/-- each operation's forerunners stand ahead of it -/
def aheadB : List Oper → Nat → Bool
  | [], _ => true
  | o :: r, k => o.after.all (fun e => !Region.binds .any e || decide (e.on < k)) && aheadB r (k + 1)
theorem ahead_at : ∀ (l : List Oper) (n k : Nat) (o : Oper), aheadB l n = true → l[k]? = some o → ∀ e ∈ o.after, Region.binds .any e = true → e.on < n + k
  | [], _, _, _, _, h => by simp at h
  | p :: r, n, 0, o, ha, h => by
    have : p = o := by simpa using h
    subst this
    simp only [aheadB, Bool.and_eq_true] at ha
    intro e he hb
    have := (Array.all_eq_true_iff_forall_mem.1 ha.1) e he
    simpa [hb] using this
  | p :: r, n, k + 1, o, ha, h => by
    simp only [aheadB, Bool.and_eq_true] at ha
    intro e he hb
    have := ahead_at r (n + 1) k o ha.2 (by simpa using h) e he hb
    omega
theorem all_listed {l : List Oper} (ha : aheadB l 0 = true) {m : Array Bool} (hs : m.size = l.length) (hr : Region.ready .any l.toArray m = []) : m.toList = List.replicate l.length true := by
  have key : ∀ k, k < m.size → m.toList[k]? = some true := by
    intro k
    induction k using Nat.strongRecOn with
    | _ k ih =>
      intro hk
      cases hb : m.toList[k]? with
      | none =>
        rw [List.getElem?_eq_none_iff] at hb
        simp at hb; omega
      | some b =>
        cases b with
        | true => rfl
        | false =>
          exfalso
          have hkl : k < l.length := by omega
          have ho : l[k]? = some l[k] := List.getElem?_eq_getElem hkl
          have hmem : k ∈ Region.ready .any l.toArray m := by
            refine mem_ready.2 ⟨?_, l[k], by simp [hkl], fun e he hbd => ?_⟩
            · rw [Array.getElem?_toList, Array.getElem?_eq_getElem hk] at hb
              simpa [Array.getD, hk] using hb
            · have h1 := ahead_at l 0 k _ ha ho e he hbd
              have h2 := ih e.on (by omega) (by omega)
              rw [Array.getElem?_toList, Array.getElem?_eq_getElem (by omega)] at h2
              simpa [Array.getD, show e.on < m.size by omega] using h2
          rw [hr] at hmem
          cases hmem
  refine List.ext_getElem? fun k => ?_
  by_cases hk : k < m.size
  · rw [key k hk, List.getElem?_replicate, if_pos (by omega)]
  · rw [List.getElem?_eq_none (by simpa using Nat.le_of_not_lt hk), List.getElem?_replicate, if_neg (by omega)]
/-- what is to hold behind an operation -/
def NextP {X : Type} (vals : X → List (Option Nat × Value)) (F : X → List Bool → World → Prop) (a : Act) (bs : List Bool) (k : Nat) (a' : Act) (w' : World) : Prop := ∃ x, a' = putsB (vals x) (bs.set k true) a ∧ F x (bs.set k true) w'
/-- **A REGION BY WHAT EACH OPERATION LEAVES, IN WHATEVER ORDER.** -/
theorem wp_region_puts {X : Type} (vals : X → List (Option Nat × Value)) (F : X → List Bool → World → Prop) {id : Nat} {P : Program} {Q : Exit → Act → World → Prop} {a : Act} {w : World} {l : List Oper} (hm : P.follows .mixedOrders = true)
    (hB : (distD (l.map (·.dst)) && (aheadB l 0 && l.all (·.guard.isNone))) = true) (x0 : X) (h0 : F x0 (List.replicate l.length false) w.drew)
    (hstep : ∀ (x : X) (bs : List Bool) (w : World) (k : Nat) (o : Oper), bs.length = l.length → l[k]? = some o → bs[k]? = some false → (∀ e ∈ o.after, Region.binds .any e = true → bs[e.on]? = some true) → F x bs w →
      o.wp P (putsB (vals x) bs a) w (NextP vals F a bs k) (Calm Q))
    (hend : ∀ x w, F x (List.replicate l.length true) w → Q .normal (putsB (vals x) (List.replicate l.length true) a) w) : (Code.region id l.toArray true).wp P Q a w := by
  simp only [Bool.and_eq_true] at hB
  obtain ⟨hd, ha, hg⟩ := hB
  have hnone : ∀ (vs : List (Option Nat × Value)) n, putsB vs (List.replicate n false) a = a := fun vs => by
    induction vs with
    | nil => intro n; rfl
    | cons p r ih =>
      intro n
      cases n with
      | zero => rfl
      | succ n => rw [List.replicate_succ, putsB]; exact ih n
  refine wp_region_inv (fun m a' w' => ∃ x, a' = putsB (vals x) m.toList a ∧ F x m.toList w') hm ⟨x0, ?_, ?_⟩ ?_ ?_
  · rw [Array.toList_replicate, hnone]
  · rw [Array.toList_replicate]; exact h0
  · rintro m k a' w' hs hk ⟨x, rfl, hF⟩
    obtain ⟨h1, o, ho, hafter⟩ := mem_ready.1 hk
    have hkl : k < m.size := by rw [hs]; simpa using (Array.getElem?_eq_some_iff.1 ho).1
    have ho' : l[k]? = some o := by simpa using ho
    have hf : m.toList[k]? = some false := by
      rw [Array.getElem?_toList, Array.getElem?_eq_getElem hkl]
      simpa [Array.getD, hkl] using h1
    have hgo : o.guard = none := by
      have := List.all_eq_true.1 hg o (List.mem_of_getElem? ho')
      simpa using this
    unfold wpOp
    rw [ho]
    simp only
    have hw : Region.wanted o (yielded l.toArray (putsB (vals x) m.toList a).tmps) = true := by unfold Region.wanted; rw [hgo]
    rw [if_pos hw]
    refine .inl (Oper.wp_mono (fun a2 w2 h2 => ?_) (hstep x m.toList w' k o (by simpa using hs) ho' hf (fun e he hb => ?_) hF))
    · obtain ⟨x2, e2, hF2⟩ := h2
      rw [Array.toList_setIfInBounds]
      exact ⟨x2, e2, hF2⟩
    · have h3 := hafter e he hb
      have hlt : e.on < m.size := by
        rcases Nat.lt_or_ge e.on m.size with h4 | h4
        · exact h4
        · simp [Array.getD, Nat.not_lt.2 h4] at h3
      rw [Array.getElem?_toList, Array.getElem?_eq_getElem hlt]
      simpa [Array.getD, hlt] using h3
  · rintro m a' w' hs hr ⟨x, rfl, hF⟩
    rw [all_listed ha hs hr] at hF ⊢
    exact hend x w' hF
end Go.Proofs.YtlhoedpencmikaaGreatDoor
