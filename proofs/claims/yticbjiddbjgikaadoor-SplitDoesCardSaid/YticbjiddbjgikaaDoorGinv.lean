/- A region in whatever order: by what holds at each set of operations that have come up (an invariant), each operation once. -/
import Derived.Test.YticbjiddbjgikaaDoorGagg
namespace Go.Proofs.YticbjiddbjgikaaDoor
open Go.RowKit
set_option linter.unusedVariables false
set_option linter.unusedSimpArgs false

/-- how many are to come -/
def toCome (l : Array Bool) : Nat := (l.toList.filter fun b => !b).length
theorem toCome_set : ∀ (l : List Bool) (k : Nat), l[k]? = some false → ((l.set k true).filter fun b => !b).length + 1 = (l.filter fun b => !b).length
  | [], k, h => by simp at h
  | b :: l, 0, h => by
    have : b = false := by simpa using h
    subst this
    simp []
  | b :: l, k + 1, h => by
    have ih := toCome_set l k (by simpa using h)
    rw [List.set_cons_succ, List.filter_cons, List.filter_cons]
    cases b
    · simp only [Bool.not_false, if_true, List.length_cons]; omega
    · simp only [Bool.not_true, Bool.false_eq_true, if_false]; exact ih
theorem inv_any {P : Program} {l : List Oper} {Q : Exit → Act → World → Prop} (I : Array Bool → Act → World → Prop)
    (hstep : ∀ m k a w, m.size = l.length → k ∈ Region.ready .any l.toArray m → I m a w → wpOp P l.toArray Q k (fun a' w' => I (m.setIfInBounds k true) a' w') a w)
    (hend : ∀ m a w, m.size = l.length → Region.ready .any l.toArray m = [] → I m a w → Q .normal a w) :
    ∀ (n : Nat) (m : Array Bool) (a : Act) (w : World), m.size = l.length → toCome m = n → I m a w → wpAnyH P .any l.toArray Q (fun _ => True) n m a w
  | 0, m, a, w, hs, hn, h => by
    have hr : Region.ready .any l.toArray m = [] := by
      refine List.eq_nil_iff_forall_not_mem.2 fun k hk => ?_
      obtain ⟨h1, o, ho, -⟩ := mem_ready.1 hk
      have hkl : k < m.size := by rw [hs]; simpa using (Array.getElem?_eq_some_iff.1 ho).1
      have hf : m.toList[k]? = some false := by
        rw [Array.getElem?_toList, Array.getElem?_eq_getElem hkl]
        simpa [Array.getD, hkl] using h1
      unfold toCome at hn
      have := toCome_set m.toList k hf
      omega
    exact ⟨hr, hend m a w hs hr h⟩
  | n + 1, m, a, w, hs, hn, h => by
    refine ⟨fun hr => hend m a w hs hr h, fun k hk => ?_⟩
    obtain ⟨h1, o, ho, -⟩ := mem_ready.1 hk
    have hkl : k < m.size := by rw [hs]; simpa using (Array.getElem?_eq_some_iff.1 ho).1
    have hf : m.toList[k]? = some false := by
      rw [Array.getElem?_toList, Array.getElem?_eq_getElem hkl]
      simpa [Array.getD, hkl] using h1
    refine wpOp_mono (fun a' w' h' => ⟨trivial, inv_any I hstep hend n _ a' w' (by rw [Array.size_setIfInBounds]; exact hs) ?_ h'⟩) (hstep m k a w hs hk h)
    unfold toCome at hn ⊢
    rw [Array.toList_setIfInBounds]
    have := toCome_set m.toList k hf
    omega
/-- **A REGION BY AN INVARIANT.** -/
theorem wp_region_inv (I : Array Bool → Act → World → Prop) {id : Nat} {P : Program} {Q : Exit → Act → World → Prop} {a : Act} {w : World} {l : List Oper} (hm : P.follows .mixedOrders = true)
    (h0 : I (Array.replicate l.length false) a w.drew)
    (hstep : ∀ m k a w, m.size = l.length → k ∈ Region.ready .any l.toArray m → I m a w → wpOp P l.toArray (Calm Q) k (fun a' w' => I (m.setIfInBounds k true) a' w') a w)
    (hend : ∀ m a w, m.size = l.length → Region.ready .any l.toArray m = [] → I m a w → Q .normal a w) : (Code.region id l.toArray true).wp P Q a w := by
  refine Code.wp_mono Calm.imp (wp_region_held (S := fun _ => True) hm ?_)
  have key := inv_any (P := P) (Q := Calm Q) I hstep (fun m a w h1 h2 h3 => hend m a w h1 h2 h3) l.length (Array.replicate l.length false) a w.drew (by simp) (by unfold toCome; simp) h0
  simpa using key

theorem put_some (a : Act) (i : Nat) (v : Value) : a.put (some i) v = { a with tmps := a.tmps.setIfInBounds i v } := rfl
def apartD (d : Option Nat) (ds : List (Option Nat)) : Bool := match d with
  | none => true
  | some i => !ds.contains (some i)
def distD : List (Option Nat) → Bool
  | [] => true
  | d :: r => apartD d r && distD r
theorem put_comm {d e : Option Nat} (h : ∀ i, d = some i → e ≠ some i) (a : Act) (u v : Value) : (a.put d u).put e v = (a.put e v).put d u := by
  cases d with
  | none => rfl
  | some i => cases e with
    | none => rfl
    | some j =>
      have hij : i ≠ j := fun hh => h i rfl (by rw [hh])
      simp only [put_some]
      rw [Array.setIfInBounds_comm _ _ hij]
/-- the acts of those that have come up -/
def putsB : List (Option Nat × Value) → List Bool → Act → Act
  | [], _, a => a
  | _ :: _, [], a => a
  | p :: r, b :: bs, a => putsB r bs (if b then a.put p.1 p.2 else a)
theorem putsB_put : ∀ (vs : List (Option Nat × Value)) (bs : List Bool) (a : Act) (d : Option Nat) (v : Value), apartD d (vs.map (·.1)) = true → (putsB vs bs a).put d v = putsB vs bs (a.put d v)
  | [], _, _, _, _, _ => rfl
  | _ :: _, [], _, _, _, _ => rfl
  | p :: r, b :: bs, a, d, v, h => by
    have h1 : apartD d (r.map (·.1)) = true := by
      unfold apartD at h ⊢
      cases d with
      | none => rfl
      | some i => simp at h ⊢; exact h.2
    have h2 : ∀ i, d = some i → p.1 ≠ some i := fun i hi => by
      subst hi
      unfold apartD at h
      simp at h
      exact fun hq => h.1 hq.symm
    rw [putsB, putsB, putsB_put r bs _ d v h1]
    cases b
    · rfl
    · simp only [if_true]
      congr 1
      cases d with
      | none => rfl
      | some i => exact put_comm (d := p.1) (e := some i) (fun j hj hq => h2 i rfl (by rw [hj, ← hq])) a p.2 v
theorem putsB_congr : ∀ (vs us : List (Option Nat × Value)) (bs : List Bool) (a : Act), us.length = vs.length → (∀ j : Nat, bs[j]? = some true → us[j]? = vs[j]?) → putsB us bs a = putsB vs bs a
  | [], [], _, _, _, _ => rfl
  | [], _ :: _, _, _, h, _ => by simp at h
  | _ :: _, [], _, _, h, _ => by simp at h
  | _ :: _, _ :: _, [], _, _, _ => rfl
  | p :: r, q :: u, b :: bs, a, hl, h => by
    have ih := fun a => putsB_congr r u bs a (by simpa using hl) (fun j hj => by have := h (j + 1) (by simpa using hj); simpa using this)
    rw [putsB, putsB]
    cases b
    · exact ih _
    · have h0 := h 0 (by simp)
      have : q = p := by simpa using h0
      rw [this]; exact ih _
theorem putsB_step : ∀ (vs us : List (Option Nat × Value)) (bs : List Bool) (k : Nat) (p : Option Nat × Value) (a : Act), us.length = vs.length → us.map (·.1) = vs.map (·.1) → distD (vs.map (·.1)) = true → bs[k]? = some false → us[k]? = some p →
    (∀ j : Nat, bs[j]? = some true → us[j]? = vs[j]?) → (putsB vs bs a).put p.1 p.2 = putsB us (bs.set k true) a
  | [], us, bs, k, p, a, hl, _, _, _, hk, _ => by
    have : us = [] := List.eq_nil_of_length_eq_zero (by simpa using hl)
    subst this; simp at hk
  | q :: r, [], bs, k, p, a, hl, _, _, _, _, _ => by simp at hl
  | q :: r, x :: u, [], k, p, a, _, _, _, hb, _, _ => by simp at hb
  | q :: r, x :: u, b :: bs, 0, p, a, hl, hm, hd, hb, hk, h => by
    have hb' : b = false := by simpa using hb
    have hx : x = p := by simpa using hk
    subst hb' hx
    simp only [List.map_cons, List.cons.injEq] at hm
    simp only [List.map_cons, distD, Bool.and_eq_true] at hd
    rw [List.set_cons_zero, putsB, putsB]
    simp only [Bool.false_eq_true, if_false, if_true]
    rw [putsB_put r bs a x.1 x.2 (by rw [hm.1]; exact hd.1)]
    exact (putsB_congr r u bs _ (by simpa using hl) (fun j hj => by have := h (j + 1) (by simpa using hj); simpa using this)).symm
  | q :: r, x :: u, b :: bs, k + 1, p, a, hl, hm, hd, hb, hk, h => by
    simp only [List.map_cons, List.cons.injEq] at hm
    simp only [List.map_cons, distD, Bool.and_eq_true] at hd
    have ih := fun a => putsB_step r u bs k p a (by simpa using hl) hm.2 hd.2 (by simpa using hb) (by simpa using hk) (fun j hj => by have := h (j + 1) (by simpa using hj); simpa using this)
    rw [List.set_cons_succ, putsB, putsB]
    cases b
    · exact ih _
    · have h0 := h 0 (by simp)
      have : x = q := by simpa using h0
      rw [this]; exact ih _
/-- a slot that no operation writes -/
theorem putsB_out : ∀ (vs : List (Option Nat × Value)) (bs : List Bool) (a : Act) (j : Nat), apartD (some j) (vs.map (·.1)) = true → (putsB vs bs a).tmps[j]? = a.tmps[j]?
  | [], _, _, _, _ => rfl
  | _ :: _, [], _, _, _ => rfl
  | p :: r, b :: bs, a, j, h => by
    unfold apartD at h
    simp at h
    rw [putsB, putsB_out r bs _ j (by unfold apartD; simp; exact h.2)]
    cases b
    · rfl
    · simp only [if_true]
      cases hp : p.1 with
      | none => rfl
      | some i =>
        rw [put_some]
        show (a.tmps.setIfInBounds i p.2)[j]? = a.tmps[j]?
        rw [Array.getElem?_setIfInBounds, if_neg (fun e => h.1 (by rw [hp, e]))]
/-- a slot that one of those that have come up has written -/
theorem putsB_at : ∀ (vs : List (Option Nat × Value)) (bs : List Bool) (a : Act) (i j : Nat) (v : Value), distD (vs.map (·.1)) = true → vs[i]? = some (some j, v) → bs[i]? = some true → j < a.tmps.size → (putsB vs bs a).tmps[j]? = some v
  | [], _, _, i, j, v, _, h, _, _ => by simp at h
  | _ :: _, [], _, i, j, v, _, _, h, _ => by simp at h
  | p :: r, b :: bs, a, 0, j, v, hd, hv, hb, hj => by
    have hp : p = (some j, v) := by simpa using hv
    have hb' : b = true := by simpa using hb
    subst hp hb'
    simp only [List.map_cons, distD, Bool.and_eq_true] at hd
    rw [putsB, putsB_out r bs _ j hd.1]
    simp only [if_true, put_some]
    rw [Array.getElem?_setIfInBounds, if_pos rfl, if_pos hj]
  | p :: r, b :: bs, a, i + 1, j, v, hd, hv, hb, hj => by
    simp only [List.map_cons, distD, Bool.and_eq_true] at hd
    rw [putsB]
    refine putsB_at r bs _ i j v hd.2 (by simpa using hv) (by simpa using hb) ?_
    cases b
    · exact hj
    · simp only [if_true]
      cases p.1 with
      | none => exact hj
      | some q => rw [put_some]; simpa using hj
/-- each operation's forerunners stand ahead of it -/
def aheadB : List Oper → Nat → Bool
  | [], _ => true
  | o :: r, k => o.after.all (fun e => !Region.binds .any e || decide (e.on < k)) && aheadB r (k + 1)
theorem ahead_at : ∀ (l : List Oper) (n k : Nat) (o : Oper), aheadB l n = true → l[k]? = some o → ∀ e ∈ o.after, Region.binds .any e = true → e.on < n + k
  | [], _, _, _, _, h => by simp at h
  | p :: r, n, 0, o, ha, h => by
    have : p = o := by simpa using h
    subst this
    simp only [aheadB, Bool.and_eq_true] at ha
    intro e he hb
    have := (Array.all_eq_true_iff_forall_mem.1 ha.1) e he
    simpa [hb] using this
  | p :: r, n, k + 1, o, ha, h => by
    simp only [aheadB, Bool.and_eq_true] at ha
    intro e he hb
    have := ahead_at r (n + 1) k o ha.2 (by simpa using h) e he hb
    omega
theorem all_listed {l : List Oper} (ha : aheadB l 0 = true) {m : Array Bool} (hs : m.size = l.length) (hr : Region.ready .any l.toArray m = []) : m.toList = List.replicate l.length true := by
  have key : ∀ k, k < m.size → m.toList[k]? = some true := by
    intro k
    induction k using Nat.strongRecOn with
    | _ k ih =>
      intro hk
      cases hb : m.toList[k]? with
      | none =>
        rw [List.getElem?_eq_none_iff] at hb
        simp at hb; omega
      | some b =>
        cases b with
        | true => rfl
        | false =>
          exfalso
          have hkl : k < l.length := by omega
          have ho : l[k]? = some l[k] := List.getElem?_eq_getElem hkl
          have hmem : k ∈ Region.ready .any l.toArray m := by
            refine mem_ready.2 ⟨?_, l[k], by simp [hkl], fun e he hbd => ?_⟩
            · rw [Array.getElem?_toList, Array.getElem?_eq_getElem hk] at hb
              simpa [Array.getD, hk] using hb
            · have h1 := ahead_at l 0 k _ ha ho e he hbd
              have h2 := ih e.on (by omega) (by omega)
              rw [Array.getElem?_toList, Array.getElem?_eq_getElem (by omega)] at h2
              simpa [Array.getD, show e.on < m.size by omega] using h2
          rw [hr] at hmem
          cases hmem
  refine List.ext_getElem? fun k => ?_
  by_cases hk : k < m.size
  · rw [key k hk, List.getElem?_replicate, if_pos (by omega)]
  · rw [List.getElem?_eq_none (by simpa using Nat.le_of_not_lt hk), List.getElem?_replicate, if_neg (by omega)]
/-- what is to hold behind an operation -/
def NextP {X : Type} (vals : X → List (Option Nat × Value)) (F : X → List Bool → World → Prop) (a : Act) (bs : List Bool) (k : Nat) (a' : Act) (w' : World) : Prop := ∃ x, a' = putsB (vals x) (bs.set k true) a ∧ F x (bs.set k true) w'
/-- **A REGION BY WHAT EACH OPERATION LEAVES, IN WHATEVER ORDER.** -/
theorem wp_region_puts {X : Type} (vals : X → List (Option Nat × Value)) (F : X → List Bool → World → Prop) {id : Nat} {P : Program} {Q : Exit → Act → World → Prop} {a : Act} {w : World} {l : List Oper} (hm : P.follows .mixedOrders = true)
    (hB : (distD (l.map (·.dst)) && (aheadB l 0 && l.all (·.guard.isNone))) = true) (x0 : X) (h0 : F x0 (List.replicate l.length false) w.drew)
    (hstep : ∀ (x : X) (bs : List Bool) (w : World) (k : Nat) (o : Oper), bs.length = l.length → l[k]? = some o → bs[k]? = some false → (∀ e ∈ o.after, Region.binds .any e = true → bs[e.on]? = some true) → F x bs w →
      o.wp P (putsB (vals x) bs a) w (NextP vals F a bs k) (Calm Q))
    (hend : ∀ x w, F x (List.replicate l.length true) w → Q .normal (putsB (vals x) (List.replicate l.length true) a) w) : (Code.region id l.toArray true).wp P Q a w := by
  simp only [Bool.and_eq_true] at hB
  obtain ⟨hd, ha, hg⟩ := hB
  have hnone : ∀ (vs : List (Option Nat × Value)) n, putsB vs (List.replicate n false) a = a := fun vs => by
    induction vs with
    | nil => intro n; rfl
    | cons p r ih =>
      intro n
      cases n with
      | zero => rfl
      | succ n => rw [List.replicate_succ, putsB]; exact ih n
  refine wp_region_inv (fun m a' w' => ∃ x, a' = putsB (vals x) m.toList a ∧ F x m.toList w') hm ⟨x0, ?_, ?_⟩ ?_ ?_
  · rw [Array.toList_replicate, hnone]
  · rw [Array.toList_replicate]; exact h0
  · rintro m k a' w' hs hk ⟨x, rfl, hF⟩
    obtain ⟨h1, o, ho, hafter⟩ := mem_ready.1 hk
    have hkl : k < m.size := by rw [hs]; simpa using (Array.getElem?_eq_some_iff.1 ho).1
    have ho' : l[k]? = some o := by simpa using ho
    have hf : m.toList[k]? = some false := by
      rw [Array.getElem?_toList, Array.getElem?_eq_getElem hkl]
      simpa [Array.getD, hkl] using h1
    have hgo : o.guard = none := by
      have := List.all_eq_true.1 hg o (List.mem_of_getElem? ho')
      simpa using this
    unfold wpOp
    rw [ho]
    simp only
    have hw : Region.wanted o (yielded l.toArray (putsB (vals x) m.toList a).tmps) = true := by unfold Region.wanted; rw [hgo]
    rw [if_pos hw]
    refine .inl (Oper.wp_mono (fun a2 w2 h2 => ?_) (hstep x m.toList w' k o (by simpa using hs) ho' hf (fun e he hb => ?_) hF))
    · obtain ⟨x2, e2, hF2⟩ := h2
      rw [Array.toList_setIfInBounds]
      exact ⟨x2, e2, hF2⟩
    · have h3 := hafter e he hb
      have hlt : e.on < m.size := by
        rcases Nat.lt_or_ge e.on m.size with h4 | h4
        · exact h4
        · simp [Array.getD, Nat.not_lt.2 h4] at h3
      rw [Array.getElem?_toList, Array.getElem?_eq_getElem hlt]
      simpa [Array.getD, hlt] using h3
  · rintro m a' w' hs hr ⟨x, rfl, hF⟩
    rw [all_listed ha hs hr] at hF ⊢
    exact hend x w' hF
end Go.Proofs.YticbjiddbjgikaaDoor
/- Regions in whatever order: calls, and boxes that are made and stored into (`x, y := f(g(..))`): what holds behind each operation. -/
namespace Go.Proofs.YticbjiddbjgikaaDoor
open Go.ChangeShapes Go.WideShapes Go.ChangeAt Go.RowKit
set_option linter.unusedVariables false
set_option linter.unusedSimpArgs false

/-! one operation -/
theorem op_value {P : Program} {o : Oper} {A : Act} {w w' : World} {N : Act → World → Prop} {Q : Exit → Act → World → Prop} (v : Value) (h : (execOp A.eval o).run P w = .ok (.value v) w') (k : N (A.put o.dst v) w') : o.wp P A w N Q := by
  unfold Oper.wp
  rw [h]
  exact k
theorem op_skip {P : Program} {o : Oper} {A : Act} {w w' : World} {N : Act → World → Prop} {Q : Exit → Act → World → Prop} (h : (execOp A.eval o).run P w = .ok .skip w') (k : N (A.put o.dst undef) w') : o.wp P A w N Q := by
  unfold Oper.wp
  rw [h]
  exact k
theorem op_call {P : Program} {o : Oper} {A : Act} {w : World} {N : Act → World → Prop} {Q : Exit → Act → World → Prop} {f : FuncId} {xs : Array Operand} {ats : Array TypeId} {fn : Func} {args : Array Value} {T : Ending → World → Prop} (hc : Calls P f args w T)
    (hop : o.op = .call { callee := .value (.func f), args := xs, argTypes := ats }) (hf : P.funcs[f]? = some fn) (hn : (fn.name == "runtime.NumGoroutine") = false) (hb : fn.body.isNone = false) (hargs0 : xs.toList.map A.eval = args.toList)
    (h : ∀ e w', T e w' → ∃ v, e = .returned v ∧ N (A.put o.dst v) w') : o.wp P A w N Q := by
  unfold Oper.wp
  obtain ⟨d, op, type, pos, after, guard⟩ := o
  have hargs : xs.map A.eval = args := by apply Array.ext'; rw [← hargs0]; simp
  subst hop hargs
  rw [execOp_call_go, run_callFunc hf hn hb]
  simp only [Oper.upon]
  have e : (#[] ++ xs.map A.eval ++ #[] : Array Value) = xs.map A.eval := by simp
  rw [e]
  exact hc.mono fun e w' ht => by
    obtain ⟨v, he, h2⟩ := h e w' ht
    subst he
    exact h2
theorem op_load {P : Program} {o : Oper} {A : Act} {w : World} {N : Act → World → Prop} {Q : Exit → Act → World → Prop} {ty t : TypeId} {x : Operand} {g : Nat} {cs : Array Value} {d : TypeDesc}
    (hop : o.op = .load ty x) (hx : A.eval x = .pointer (some ⟨g, 0, none⟩)) (hb : Blk w g t cs) (hd : (match d with | .struct _ | .array _ _ => true | _ => false) = true) (hu : P.underlying ty = some d) (hi : (P.info? ty).map (·.size) = some cs.size)
    (k : N (A.put o.dst (.agg cs)) w) : o.wp P A w N Q :=
  op_value (.agg cs) (by
    unfold execOp
    simp only [hop, hx, Instr.loadAt, Instr.sureAddr, Sem.run_bind, Sem.run_pure, Result.andThen_ok, run_loadVar_row w g t ty cs (0, 0) d hb hu (by cases d <;> first | rfl | exact hd) hi]) k
theorem op_store {P : Program} {o : Oper} {A : Act} {w : World} {N : Act → World → Prop} {Q : Exit → Act → World → Prop} {ty t : TypeId} {x y : Operand} {g : Nat} {cs old : Array Value}
    (hop : o.op = .store ty x y) (hx : A.eval x = .pointer (some ⟨g, 0, none⟩)) (hy : A.eval y = .agg cs) (hb : Blk w g t old) (hi : (P.info? ty).map (·.size) = some cs.size) (hold : old.size = cs.size) (h1 : cs.all (·.oneCell') = true)
    (k : N (A.put o.dst undef) (w.setRow g cs)) : o.wp P A w N Q :=
  op_skip (by
    unfold execOp
    simp only [hop, hx, hy, Instr.storeAt, Instr.sureAddr, Sem.run_bind, Sem.run_pure, Result.andThen_ok, run_storeVar_row w g t ty old cs hb hi hold h1]) k
theorem op_read {P : Program} {o : Oper} {A : Act} {w : World} {N : Act → World → Prop} {Q : Exit → Act → World → Prop} {x : Operand} {u : Value} (v : Value) (hx : A.eval x = u) (h : ∀ E : Operand → Value, E x = u → (execOp E o).run P w = .ok (.value v) w) (k : N (A.put o.dst v) w) : o.wp P A w N Q :=
  op_value v (h A.eval hx) k
theorem op_alloc {P : Program} {o : Oper} {A : Act} {w : World} {N : Act → World → Prop} {Q : Exit → Act → World → Prop} (z : Array Value) (t : TypeId) (h : ∀ E : Operand → Value, (execOp E o).run P w = .ok (.value (.pointer (some ⟨w.heap.size, 0, none⟩))) (w.alloc (.cells z t))) (k : N (A.put o.dst (.pointer (some ⟨w.heap.size, 0, none⟩))) (w.alloc (.cells z t))) : o.wp P A w N Q :=
  op_value _ (h A.eval) k
/-! slots -/
theorem eval_at {vs : List (Option Nat × Value)} {bs : List Bool} {a : Act} {i j : Nat} {v : Value} (hd : distD (vs.map (·.1)) = true) (hv : vs[i]? = some (some j, v)) (hb : bs[i]? = some true) (hj : j < a.tmps.size) : (putsB vs bs a).eval (.tmp j) = v := by
  have := putsB_at vs bs a i j v hd hv hb hj
  unfold Act.eval
  simp [Array.getD_eq_getD_getElem?, this]
theorem eval_out {vs : List (Option Nat × Value)} {bs : List Bool} {a : Act} {j : Nat} (h : apartD (some j) (vs.map (·.1)) = true) : (putsB vs bs a).eval (.tmp j) = a.eval (.tmp j) := by
  have := putsB_out vs bs a j h
  unfold Act.eval
  simp [Array.getD_eq_getD_getElem?, this]
theorem next_at {X : Type} {vals : X → List (Option Nat × Value)} {F : X → List Bool → World → Prop} {a : Act} {bs : List Bool} {k : Nat} {p : Option Nat} {x : X} (y : X) {v : Value} {w' : World} (hxy : (vals y).map (·.1) = (vals x).map (·.1)) (hd : distD ((vals x).map (·.1)) = true)
    (hb : bs[k]? = some false) (hv : (vals y)[k]? = some (p, v)) (hs : ∀ j : Nat, bs[j]? = some true → (vals y)[j]? = (vals x)[j]?) (hF : F y (bs.set k true) w') : NextP vals F a bs k ((putsB (vals x) bs a).put p v) w' := by
  refine ⟨y, ?_, hF⟩
  refine putsB_step (vals x) (vals y) bs k (p, v) a ?_ hxy hd hb hv hs
  have h1 := congrArg List.length hxy
  simp at h1
  omega
/-! boxes -/
structure Bx (Y : Type) where
  al : Nat
  st : Nat
  t : TypeId
  z : Array Value
  fin : Y → Array Value
/-- what holds, as far as the operations bs have come up: the world only grows; what the calls told (from the operation c on); each box that was made -/
structure FB {Y : Type} (w0 : World) (c : Nat) (G : Y → World → Prop) (away : Y → Nat → Prop) (boxes : List (Bx Y)) (x : (Nat → Nat) × Y) (bs : List Bool) (w : World) : Prop where
  e : Ext w0 w
  g : bs[c]? = some true → G x.2 w
  b : ∀ (i : Nat) (b : Bx Y), boxes[i]? = some b → bs[b.al]? = some true → w0.heap.size ≤ x.1 i ∧ Blk w (x.1 i) b.t (if bs[b.st]? = some true then b.fin x.2 else b.z)
  n : ∀ (i j : Nat) (b d : Bx Y), i ≠ j → boxes[i]? = some b → boxes[j]? = some d → bs[b.al]? = some true → bs[d.al]? = some true → x.1 i ≠ x.1 j
  s : ∀ (i : Nat) (b : Bx Y), boxes[i]? = some b → bs[b.st]? = some true → bs[b.al]? = some true ∧ bs[c]? = some true
  a : ∀ (i : Nat) (b : Bx Y), boxes[i]? = some b → bs[b.al]? = some true → bs[c]? = some true → away x.2 (x.1 i)
section
variable {Y : Type} {w0 : World} {c : Nat} {G : Y → World → Prop} {away : Y → Nat → Prop} {boxes : List (Bx Y)} {x : (Nat → Nat) × Y} {bs : List Bool} {w : World}
theorem set_ne {bs : List Bool} {k j : Nat} (h : k ≠ j) : (bs.set k true)[j]? = bs[j]? := by rw [List.getElem?_set_ne h]
theorem set_true {bs : List Bool} {k j : Nat} (h : (bs.set k true)[j]? = some true) : j = k ∨ bs[j]? = some true := by
  by_cases e : k = j
  · exact .inl e.symm
  · rw [set_ne e] at h; exact .inr h
theorem FB.start (h : ∀ i : Nat, ¬ bs[i]? = some true) : FB w0 c G away boxes x bs w0 :=
  ⟨Ext.refl _, fun hg => absurd hg (h _), fun _ _ _ ha => absurd ha (h _), fun _ _ _ _ _ _ _ ha => absurd ha (h _), fun _ _ _ hs => absurd hs (h _), fun _ _ _ ha => absurd ha (h _)⟩
theorem not_yet {n i : Nat} : ¬ (List.replicate n false)[i]? = some true := by
  intro h
  have := List.mem_of_getElem? h
  rw [List.mem_replicate] at this
  exact absurd this.2 (by decide)
/-- behind an operation that only reads (or a quiet call that is none of the box's) -/
theorem FB.read (h : FB w0 c G away boxes x bs w) {k : Nat} (hk : k ≠ c) (hb : ∀ (i : Nat) (b : Bx Y), boxes[i]? = some b → k ≠ b.al ∧ k ≠ b.st) : FB w0 c G away boxes x (bs.set k true) w := by
  refine ⟨h.e, fun hg => h.g (by rwa [set_ne hk] at hg), fun i b hi ha => ?_, fun i j b d hij hi hj ha hd => ?_, fun i b hi hs => ?_, fun i b hi ha hc => ?_⟩
  · obtain ⟨h1, h2⟩ := hb i b hi
    rw [set_ne h1] at ha
    rw [set_ne h2]
    exact h.b i b hi ha
  · rw [set_ne (hb i b hi).1] at ha
    rw [set_ne (hb j d hj).1] at hd
    exact h.n i j b d hij hi hj ha hd
  · rw [set_ne (hb i b hi).2] at hs
    rw [set_ne (hb i b hi).1, set_ne hk]
    exact h.s i b hi hs
  · rw [set_ne (hb i b hi).1] at ha
    rw [set_ne hk] at hc
    exact h.a i b hi ha hc
/-- in a later world -/
theorem FB.ext (h : FB w0 c G away boxes x bs w) {w' : World} (hE : Ext w w') (hG : ∀ y, G y w → G y w') : FB w0 c G away boxes x bs w' :=
  ⟨h.e.trans hE, fun hg => hG _ (h.g hg), fun i b hi ha => ⟨(h.b i b hi ha).1, (h.b i b hi ha).2.ext hE⟩, h.n, h.s, h.a⟩
/-- behind a box's making -/
theorem FB.make (h : FB w0 c G away boxes x bs w) {i : Nat} {b : Bx Y} (hi : boxes[i]? = some b) (hbs : bs[b.al]? = some false) (hc : b.al ≠ c) (hG : ∀ y, G y w → G y (w.alloc (.cells b.z b.t))) (hA : ∀ y, G y w → away y w.heap.size)
    (hal : ∀ (j : Nat) (d : Bx Y), boxes[j]? = some d → (d.al = b.al ↔ j = i) ∧ d.st ≠ b.al) : FB w0 c G away boxes (fun j => if j = i then w.heap.size else x.1 j, x.2) (bs.set b.al true) (w.alloc (.cells b.z b.t)) := by
  have hE := (Ext.refl w).alloc (.cells b.z b.t)
  have hlen : b.al < bs.length := (List.getElem?_eq_some_iff.1 hbs).1
  refine ⟨h.e.trans hE, fun hg => hG _ (h.g (by rwa [set_ne hc] at hg)), fun j d hj ha => ?_, fun j k d e hjk hj hk ha he => ?_, fun j d hj hs => ?_, fun j d hj ha hcc => ?_⟩
  · rw [set_ne (hal j d hj).2.symm]
    by_cases hji : j = i
    · subst hji
      have hdb : d = b := by rw [hi] at hj; exact (Option.some.inj hj).symm
      subst hdb
      simp only [if_true]
      refine ⟨h.e.size, ?_⟩
      have hst : ¬ bs[d.st]? = some true := fun hq => by
        have := (h.s j d hj hq).1
        rw [hbs] at this; cases this
      rw [if_neg hst]
      exact Blk.new w _ _
    · simp only [if_neg hji]
      have hne : b.al ≠ d.al := fun e => hji (((hal j d hj).1).1 e.symm)
      rw [set_ne hne] at ha
      have := h.b j d hj ha
      exact ⟨this.1, this.2.ext hE⟩
  · have hlt : ∀ (q : Nat) (f : Bx Y), boxes[q]? = some f → q ≠ i → (bs.set b.al true)[f.al]? = some true → x.1 q < w.heap.size := fun q f hq hqi hf => by
      have hne : b.al ≠ f.al := fun e => hqi (((hal q f hq).1).1 e.symm)
      rw [set_ne hne] at hf
      exact (h.b q f hq hf).2.lt
    by_cases h1 : j = i
    · subst h1
      have h2 := hlt k e hk hjk.symm he
      simp only [if_true, if_neg hjk.symm]
      omega
    · by_cases h2 : k = i
      · subst h2
        have h3 := hlt j d hj h1 ha
        simp only [if_true, if_neg h1]
        omega
      · simp only [if_neg h1, if_neg h2]
        have n1 : b.al ≠ d.al := fun e => h1 (((hal j d hj).1).1 e.symm)
        have n2 : b.al ≠ e.al := fun e' => h2 (((hal k e hk).1).1 e'.symm)
        rw [set_ne n1] at ha
        rw [set_ne n2] at he
        exact h.n j k d e hjk hj hk ha he
  · rw [set_ne (hal j d hj).2.symm] at hs
    have h1 := h.s j d hj hs
    have hne : b.al ≠ d.al := fun e => by rw [← e, hbs] at h1; cases h1.1
    rw [set_ne hne, set_ne hc]
    exact h1
  · rw [set_ne hc] at hcc
    by_cases hji : j = i
    · subst hji
      simp only [if_true]
      exact hA _ (h.g hcc)
    · simp only [if_neg hji]
      have hne : b.al ≠ d.al := fun e => hji (((hal j d hj).1).1 e.symm)
      rw [set_ne hne] at ha
      exact h.a j d hj ha hcc
/-- behind a store into a box -/
theorem FB.fill (h : FB w0 c G away boxes x bs w) {i : Nat} {b : Bx Y} (hi : boxes[i]? = some b) (hbs : bs[b.st]? = some false) (ha : bs[b.al]? = some true) (hc : bs[c]? = some true) (hcs : b.st ≠ c) (hG : ∀ y g cs, away y g → G y w → G y (w.setRow g cs))
    (hal : ∀ (j : Nat) (d : Bx Y), boxes[j]? = some d → (d.st = b.st ↔ j = i) ∧ d.al ≠ b.st) : FB w0 c G away boxes x (bs.set b.st true) (w.setRow (x.1 i) (b.fin x.2)) := by
  have hlen : b.st < bs.length := (List.getElem?_eq_some_iff.1 hbs).1
  have hbi := h.b i b hi ha
  refine ⟨h.e.row hbi.1 _, fun hg => hG _ _ _ (h.a i b hi ha hc) (h.g hc), fun j d hj hd => ?_, fun j k d e hjk hj hk hd he => ?_, fun j d hj hs => ?_, fun j d hj hd _ => ?_⟩
  · rw [set_ne (hal j d hj).2.symm] at hd
    have hj2 := h.b j d hj hd
    by_cases hji : j = i
    · subst hji
      have hdb : d = b := by rw [hi] at hj; exact (Option.some.inj hj).symm
      subst hdb
      rw [List.getElem?_set_self hlen, if_pos rfl]
      exact ⟨hj2.1, hj2.2.row _⟩
    · have hne : b.st ≠ d.st := fun e => hji (((hal j d hj).1).1 e.symm)
      rw [set_ne hne]
      exact ⟨hj2.1, hj2.2.apart (h.n j i d b hji hj hi hd ha) _⟩
  · rw [set_ne (hal j d hj).2.symm] at hd
    rw [set_ne (hal k e hk).2.symm] at he
    exact h.n j k d e hjk hj hk hd he
  · rw [set_ne (hal j d hj).2.symm, set_ne hcs]
    rcases set_true hs with e | e
    · have := ((hal j d hj).1).1 e
      subst this
      have hdb : d = b := by rw [hi] at hj; exact (Option.some.inj hj).symm
      subst hdb
      exact ⟨ha, hc⟩
    · exact h.s j d hj e
  · rw [set_ne (hal j d hj).2.symm] at hd
    exact h.a j d hj hd hc
/-- behind the call that tells -/
theorem FB.tell (h : FB w0 c G away boxes x bs w) (hbs : bs[c]? = some false) {y : Y} {w' : World} (hE : Ext w w') (hG : G y w') (hA : ∀ g, w0.heap.size ≤ g → g < w.heap.size → away y g) (hal : ∀ (j : Nat) (d : Bx Y), boxes[j]? = some d → d.al ≠ c ∧ d.st ≠ c) :
    FB w0 c G away boxes (x.1, y) (bs.set c true) w' := by
  refine ⟨h.e.trans hE, fun _ => hG, fun j d hj hd => ?_, fun j k d e hjk hj hk hd he => ?_, fun j d hj hs => ?_, fun j d hj hd _ => ?_⟩
  · rw [set_ne (hal j d hj).1.symm] at hd
    have h1 := h.b j d hj hd
    have hst : ¬ bs[d.st]? = some true := fun hq => by
      have := (h.s j d hj hq).2
      rw [hbs] at this; cases this
    rw [if_neg hst] at h1
    rw [set_ne (hal j d hj).2.symm, if_neg hst]
    exact ⟨h1.1, h1.2.ext hE⟩
  · rw [set_ne (hal j d hj).1.symm] at hd
    rw [set_ne (hal k e hk).1.symm] at he
    exact h.n j k d e hjk hj hk hd he
  · rw [set_ne (hal j d hj).2.symm] at hs
    have := (h.s j d hj hs).2
    rw [hbs] at this; cases this
  · rw [set_ne (hal j d hj).1.symm] at hd
    have h1 := h.b j d hj hd
    exact hA _ h1.1 h1.2.lt
end
end Go.Proofs.YticbjiddbjgikaaDoor
/- Regions in whatever order, further: parts loaded, what hangs on the call that tells, three boxes. -/
namespace Go.Proofs.YticbjiddbjgikaaDoor
open Go.ChangeShapes Go.WideShapes Go.ChangeAt Go.RowKit
set_option linter.unusedVariables false
set_option linter.unusedSimpArgs false

theorem three_boxes {Y : Type} {b1 b2 b3 : Bx Y} {p : Nat → Bx Y → Prop} (h1 : p 0 b1) (h2 : p 1 b2) (h3 : p 2 b3) : ∀ (i : Nat) (b : Bx Y), ([b1, b2, b3] : List (Bx Y))[i]? = some b → p i b
  | 0, b, h => by obtain rfl := Option.some.inj h; exact h1
  | 1, b, h => by obtain rfl := Option.some.inj h; exact h2
  | 2, b, h => by obtain rfl := Option.some.inj h; exact h3
  | n + 3, b, h => by simp at h
/-- the operations of D come up behind the call c -/
def Dep (D : List Nat) (c : Nat) (bs : List Bool) : Prop := ∀ j ∈ D, bs[j]? = some true → bs[c]? = some true
theorem Dep.start (D : List Nat) (c n : Nat) : Dep D c (List.replicate n false) := fun j _ h => absurd h not_yet
theorem Dep.set {D : List Nat} {c k : Nat} {bs : List Bool} (h : Dep D c bs) (hc : c < bs.length) (hk : k ∈ D → bs[c]? = some true) : Dep D c (bs.set k true) := fun j hj ht => by
  by_cases e : k = c
  · subst e; rw [List.getElem?_set_self hc]
  · rw [set_ne e]
    rcases set_true ht with rfl | h2
    · exact hk hj
    · exact h j hj h2
theorem hs_set {α : Type} {us vs : List α} {k : Nat} {v : α} {bs : List Bool} (h : us = vs.set k v) (hb : bs[k]? = some false) : ∀ j : Nat, bs[j]? = some true → us[j]? = vs[j]? := by
  subst h
  intro j hj
  exact List.getElem?_set_ne (by rintro rfl; rw [hb] at hj; cases hj)
theorem hs_sets {α : Type} {us vs : List α} {D : List Nat} {c : Nat} {bs : List Bool} (h : ∀ j, j ∉ c :: D → us[j]? = vs[j]?) (hb : bs[c]? = some false) (hd : Dep D c bs) : ∀ j : Nat, bs[j]? = some true → us[j]? = vs[j]? := by
  intro j hj
  refine h j fun hm => ?_
  rcases List.mem_cons.1 hm with rfl | hm
  · rw [hb] at hj; cases hj
  · have := hd j hm hj
    rw [hb] at this; cases this
end Go.Proofs.YticbjiddbjgikaaDoor
