/- Four entries (an array of api.Entry) and a set of the buffer (api.Set): as values, held against one another, stored and loaded whole and by parts. -/
import Derived.Test.YtlimipjfdecbfaaDoorEn
import Derived.ChangeKeysEq
namespace Go.Proofs.YtlimipjfdecbfaaDoor
open Go.ChangeShapes Go.WideShapes Go.ChangeAt Go.RowKit Go.Joins Go.Deep
set_option linter.unusedVariables false
set_option linter.unusedSimpArgs false
set_option maxRecDepth 10000

structure Ws where
  a : En
  b : En
  c : En
  d : En
deriving DecidableEq
structure St where
  ws : Ws
  t : Nat
deriving DecidableEq
def Ws.ok (s : Ws) : Prop := s.a.ok ∧ s.b.ok ∧ s.c.ok ∧ s.d.ok
def St.ok (s : St) : Prop := s.ws.ok ∧ s.t < 256
def Ws.at (s : Ws) (k : Nat) : En := if k = 0 then s.a else if k = 1 then s.b else if k = 2 then s.c else s.d
def Ws.put (s : Ws) (k : Nat) (e : En) : Ws := if k = 0 then { s with a := e } else if k = 1 then { s with b := e } else if k = 2 then { s with c := e } else { s with d := e }
def St.put (s : St) (k : Nat) (e : En) : St := ⟨s.ws.put k e, s.t⟩
theorem at_0 (s : Ws) : s.at 0 = s.a := rfl
theorem at_1 (s : Ws) : s.at 1 = s.b := rfl
theorem at_2 (s : Ws) : s.at 2 = s.c := rfl
theorem at_3 (s : Ws) : s.at 3 = s.d := rfl
theorem put_0 (s : Ws) (e : En) : s.put 0 e = ⟨e, s.b, s.c, s.d⟩ := rfl
theorem put_1 (s : Ws) (e : En) : s.put 1 e = ⟨s.a, e, s.c, s.d⟩ := rfl
theorem put_2 (s : Ws) (e : En) : s.put 2 e = ⟨s.a, s.b, e, s.d⟩ := rfl
theorem put_3 (s : Ws) (e : En) : s.put 3 e = ⟨s.a, s.b, s.c, e⟩ := rfl
theorem k_four {k : Nat} (h : k < 4) : k = 0 ∨ k = 1 ∨ k = 2 ∨ k = 3 := by omega
theorem at_ok {s : Ws} (h : s.ok) {k : Nat} (hk : k < 4) : (s.at k).ok := by
  rcases k_four hk with rfl | rfl | rfl | rfl
  · exact h.1
  · exact h.2.1
  · exact h.2.2.1
  · exact h.2.2.2
theorem put_ok {s : Ws} (h : s.ok) {e : En} (he : e.ok) (k : Nat) : (s.put k e).ok := by
  obtain ⟨h1, h2, h3, h4⟩ := h
  unfold Ws.put
  split
  · exact ⟨he, h2, h3, h4⟩
  split
  · exact ⟨h1, he, h3, h4⟩
  split
  · exact ⟨h1, h2, he, h4⟩
  · exact ⟨h1, h2, h3, he⟩
theorem at_put {s : Ws} {k j : Nat} (hk : k < 4) (hj : j < 4) (e : En) : (s.put k e).at j = if j = k then e else s.at j := by
  rcases k_four hk with rfl | rfl | rfl | rfl <;> rcases k_four hj with rfl | rfl | rfl | rfl <;> rfl
theorem ws_ext {s t : Ws} (h : ∀ k, k < 4 → s.at k = t.at k) : s = t := by
  have h0 := h 0 (by decide)
  have h1 := h 1 (by decide)
  have h2 := h 2 (by decide)
  have h3 := h 3 (by decide)
  cases s; cases t
  simp only [at_0, at_1, at_2, at_3] at h0 h1 h2 h3
  subst h0 h1 h2 h3
  rfl

def wsC (s : Ws) : Array Value := enC s.a ++ enC s.b ++ enC s.c ++ enC s.d
def stC (s : St) : Array Value := wsC s.ws ++ #[.int .u8 (s.t : Int)]
theorem wsC_eq (s : Ws) : wsC s = enC s.a ++ enC s.b ++ enC s.c ++ enC s.d := rfl
theorem stC_eq (s : St) : stC s = wsC s.ws ++ #[.int .u8 (s.t : Int)] := rfl
theorem wsC_size (s : Ws) : (wsC s).size = 44 := by simp [wsC_eq, enC_size]
theorem stC_size (s : St) : (stC s).size = 45 := by simp [stC_eq, wsC_size]
theorem wsC_one (s : Ws) : (wsC s).all (·.oneCell') = true := by simp only [wsC_eq, Array.all_append, enC_one, Bool.and_self]
theorem stC_one (s : St) : (stC s).all (·.oneCell') = true := by rw [stC_eq, Array.all_append, wsC_one]; simp [Value.oneCell']
theorem ws_info (s : Ws) : (Tryd.prog.info? 44).map (·.size) = some (wsC s).size := by rw [wsC_size]; kernel_rfl
theorem st_info (s : St) : (Tryd.prog.info? 46).map (·.size) = some (stC s).size := by rw [stC_size]; kernel_rfl
theorem wsC_at (s : Ws) {k : Nat} (hk : k < 4) : (wsC s).extract (k * 11) (k * 11 + (enC (s.at k)).size) = enC (s.at k) := by
  rw [enC_size]
  rcases k_four hk with rfl | rfl | rfl | rfl
  all_goals
    simp only [at_0, at_1, at_2, at_3, wsC_eq, enC_eq, pmC_eq]
    kernel_rfl
theorem stC_at (s : St) {k : Nat} (hk : k < 4) : (stC s).extract (k * 11) (k * 11 + (enC (s.ws.at k)).size) = enC (s.ws.at k) := by
  rw [enC_size]
  rcases k_four hk with rfl | rfl | rfl | rfl
  all_goals
    simp only [at_0, at_1, at_2, at_3, stC_eq, wsC_eq, enC_eq, pmC_eq]
    kernel_rfl
theorem stC_ws (s : St) : (stC s).extract 0 (0 + (wsC s.ws).size) = wsC s.ws := by
  rw [wsC_size]
  simp only [stC_eq, wsC_eq, enC_eq, pmC_eq]
  kernel_rfl
theorem wsC_put (s : Ws) {k : Nat} (hk : k < 4) (e : En) : putAt (wsC s) (k * 11) (enC e).toList = wsC (s.put k e) := by
  rcases k_four hk with rfl | rfl | rfl | rfl
  all_goals
    simp only [put_0, put_1, put_2, put_3, wsC_eq, enC_eq, pmC_eq]
    kernel_rfl
theorem stC_put (s : St) {k : Nat} (hk : k < 4) (e : En) : putAt (stC s) (k * 11) (enC e).toList = stC (s.put k e) := by
  rcases k_four hk with rfl | rfl | rfl | rfl
  all_goals
    simp only [St.put, put_0, put_1, put_2, put_3, stC_eq, wsC_eq, enC_eq, pmC_eq]
    kernel_rfl
theorem stC_t (s : St) : (stC s)[44]? = some (.int .u8 (s.t : Int)) := by
  rw [stC_eq, Array.getElem?_append_right (by rw [wsC_size]; decide), wsC_size]; rfl
theorem stC_set_t (s : St) (x : Nat) {y : Int} (h : y = (x : Int)) : (stC s).setIfInBounds 44 (.int .u8 y) = stC ⟨s.ws, x⟩ := by
  subst h
  simp only [stC_eq, wsC_eq, enC_eq, pmC_eq]
  kernel_rfl
/-- a way's cells -/
theorem cell_part {A B : Array Value} {o i : Nat} (h : A.extract o (o + B.size) = B) (hi : i < B.size) : A[o + i]? = B[i]? := by
  have hs : (A.extract o (o + B.size)).size = B.size := by rw [h]
  have hle : o + i < A.size := by simp only [Array.size_extract] at hs; omega
  have e1 : (A.extract o (o + B.size))[i]? = B[i]? := by rw [h]
  rw [← e1, Array.getElem?_extract]
  rw [if_pos (by omega)]
theorem Blk.way {w : World} {g : Nat} {t : TypeId} {s : St} (h : Blk w g t (stC s)) {k i : Nat} (hk : k < 4) (hi : i < 11) : w.cell? ⟨g, k * 11 + i, none⟩ = (enC (s.ws.at k))[i]? :=
  (h.cell _).trans (cell_part (stC_at s hk) (by rw [enC_size]; exact hi))
theorem Blk.wsw {w : World} {g : Nat} {t : TypeId} {s : Ws} (h : Blk w g t (wsC s)) {k i : Nat} (hk : k < 4) (hi : i < 11) : w.cell? ⟨g, k * 11 + i, none⟩ = (enC (s.at k))[i]? :=
  (h.cell _).trans (cell_part (wsC_at s hk) (by rw [enC_size]; exact hi))
theorem Blk.st_t {w : World} {g : Nat} {t : TypeId} {s : St} (h : Blk w g t (stC s)) : w.cell? ⟨g, 44, none⟩ = some (.int .u8 (s.t : Int)) := (h.cell 44).trans (stC_t s)
theorem st_build (s : St) : Tryd.prog.built 46 [(0, .agg (wsC s.ws)), (1, .int .u8 (s.t : Int))] = some (stC s) := by simp only [stC_eq, wsC_eq, enC_eq, pmC_eq]; kernel_rfl

/-! held against one another -/
theorem run_eqI {P : Program} {w : World} {d : Nat} {t : TypeId} {c j : Nat} {xs ys : Array Value} {is : List Nat} {a b : Value} {r s : Bool} (ha : (part t xs (j * c)).run P w = .ok a w) (hb : (part t ys (j * c)).run P w = .ok b w)
    (he : (Op.equalIn d t a b).run P w = .ok r w) (h : (Op.eqItems d t c xs ys is).run P w = .ok s w) : (Op.eqItems d t c xs ys (j :: is)).run P w = .ok (r && s) w := by
  simp only [Op.eqItems, Sem.run_bind, ha, hb, he, Result.andThen_ok]
  cases r
  · simp [Sem.run_pure]
  · simpa using h
theorem ws_part {w : World} (s : Ws) {k : Nat} (hk : k < 4) : (part 28 (wsC s) (k * 11)).run Tryd.prog w = .ok (.agg (enC (s.at k))) w :=
  part_agg Tryd.underlying28 rfl (by rw [enC_size]; kernel_rfl) (wsC_at s hk)
attribute [irreducible] wsC
theorem eqlIn_ws (D0 : Nat) (w : World) (p q : Ws) : (Op.equalIn (D0 + 1 + 1 + 1 + 1) 44 (.agg (wsC p)) (.agg (wsC q))).run Tryd.prog w = .ok (decide (p = q)) w := by
  have hi : ∃ i, Tryd.prog.info? 28 = some i := by
    have h := en_info ⟨false, 0, false, 0, 0, 0, ⟨false, false, false, false⟩, false⟩
    cases hq : Tryd.prog.info? 28 with
    | none => rw [hq] at h; cases h
    | some i => exact ⟨i, rfl⟩
  obtain ⟨i, hi⟩ := hi
  rw [run_equalIn_array (e := 28) (n := 4) (i := i) w _ _ _ Tryd.underlying44 hi]
  have hc : Tryd.prog.cellsOf 28 = 11 := by kernel_rfl
  rw [hc]
  have hd : decide (p = q) = (decide (p.at 0 = q.at 0) && (decide (p.at 1 = q.at 1) && (decide (p.at 2 = q.at 2) && (decide (p.at 3 = q.at 3) && true)))) := by
    rw [Bool.eq_iff_iff]
    simp only [Bool.and_eq_true, decide_eq_true_iff, and_true]
    constructor
    · rintro rfl; exact ⟨rfl, rfl, rfl, rfl⟩
    · rintro ⟨h0, h1, h2, h3⟩
      refine ws_ext fun k hk => ?_
      rcases k_four hk with rfl | rfl | rfl | rfl
      · exact h0
      · exact h1
      · exact h2
      · exact h3
  rw [hd]
  have he : ∀ a b : En, (Op.equalIn (D0 + 1 + 1 + 1) 28 (.agg (enC a)) (.agg (enC b))).run Tryd.prog w = .ok (decide (a = b)) w := fun a b => eqlIn_en D0 w a b
  generalize D0 + 1 + 1 + 1 = D at he ⊢
  show (Op.eqItems D 28 11 (wsC p) (wsC q) [0, 1, 2, 3]).run Tryd.prog w = _
  refine run_eqI (ws_part p (by decide)) (ws_part q (by decide)) (he _ _) ?_
  refine run_eqI (ws_part p (by decide)) (ws_part q (by decide)) (he _ _) ?_
  refine run_eqI (ws_part p (by decide)) (ws_part q (by decide)) (he _ _) ?_
  refine run_eqI (ws_part p (by decide)) (ws_part q (by decide)) (he _ _) ?_
  simp [Op.eqItems, Sem.run_pure]
theorem eqlIn_st (D0 : Nat) (w : World) (p q : St) : (Op.equalIn (D0 + 1 + 1 + 1 + 1 + 1) 46 (.agg (stC p)) (.agg (stC q))).run Tryd.prog w = .ok (decide (p = q)) w := by
  have hp : Tryd.prog.stoodInHeld 46 = false := by kernel_rfl
  rw [run_equalIn_agg w _ _ _ _ (by simp [Program.fieldsOf, Tryd.underlying46]) hp]
  have hd : decide (p = q) = (decide (p.ws = q.ws) && ((p.t : Int) == q.t && true)) := by
    obtain ⟨ws, t⟩ := p
    obtain ⟨ws', t'⟩ := q
    rw [Bool.eq_iff_iff]
    simp
    try (first | omega | (intros; simp only [Int.natCast_inj]))
  rw [hd]
  have h_u8 : ∀ a b : Int, (Op.equalIn (D0 + 1 + 1 + 1 + 1) 5 (.int .u8 a) (.int .u8 b)).run Tryd.prog w = .ok (a == b) w := fun a b => run_equalIn_int w (D0 + 1 + 1 + 1) _ _ _ _ _ Tryd.underlying5
  have h_ws : ∀ a b : Ws, (Op.equalIn (D0 + 1 + 1 + 1 + 1) 44 (.agg (wsC a)) (.agg (wsC b))).run Tryd.prog w = .ok (decide (a = b)) w := fun a b => eqlIn_ws D0 w a b
  generalize D0 + 1 + 1 + 1 + 1 = D at h_u8 h_ws ⊢
  have key : (Op.eqFields D (stC p) (stC q) (Program.fieldsOf Tryd.prog 46).toList).run Tryd.prog w = .ok (decide (p.ws = q.ws) && ((p.t : Int) == q.t && true)) w := by
    simp only [Program.fieldsOf, Tryd.underlying46]
    refine run_eqF ?_ (part_agg Tryd.underlying44 rfl (ws_info _) (stC_ws p)) (part_agg Tryd.underlying44 rfl (ws_info _) (stC_ws q)) (h_ws _ _) ?_
    · simp
    refine run_eqF ?_ (part_int Tryd.underlying5 (stC_t p)) (part_int Tryd.underlying5 (stC_t q)) (h_u8 _ _) ?_
    · simp
    simp [Op.eqFields, Sem.run_pure]
  first
    | exact key
    | (simp only [Program.fieldsOf, Tryd.underlying46] at key ⊢; exact key)
attribute [irreducible] stC
theorem eql_ws (w : World) (p q : Ws) : (binOp .eql 44 (.agg (wsC p)) (.agg (wsC q))).run Tryd.prog w = .ok (.bool (decide (p = q))) w := by
  rw [run_eql_struct, show (10000 : Nat) = 9996 + 1 + 1 + 1 + 1 from rfl, eqlIn_ws 9996]; rfl
theorem neq_ws (w : World) (p q : Ws) : (binOp .neq 44 (.agg (wsC p)) (.agg (wsC q))).run Tryd.prog w = .ok (.bool (!decide (p = q))) w := neq_of_eql (eql_ws w p q)
theorem ws_guard : Tryd.prog.eqGuardType Tryd.prog.depth 44 = false := by kernel_rfl
theorem eql_st (w : World) (p q : St) : (binOp .eql 46 (.agg (stC p)) (.agg (stC q))).run Tryd.prog w = .ok (.bool (decide (p = q))) w := by
  rw [run_eql_struct, show (10000 : Nat) = 9995 + 1 + 1 + 1 + 1 + 1 from rfl, eqlIn_st 9995]; rfl
theorem neq_st (w : World) (p q : St) : (binOp .neq 46 (.agg (stC p)) (.agg (stC q))).run Tryd.prog w = .ok (.bool (!decide (p = q))) w := neq_of_eql (eql_st w p q)
theorem st_guard : Tryd.prog.eqGuardType Tryd.prog.depth 46 = false := by kernel_rfl
end Go.Proofs.YtlimipjfdecbfaaDoor
