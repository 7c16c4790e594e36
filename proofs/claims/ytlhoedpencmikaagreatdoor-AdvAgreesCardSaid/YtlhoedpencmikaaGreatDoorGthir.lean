/- Trees of three bits as natural numbers: which of four ways is to go, and a tree when a way was touched. No program. -/
import Derived.Test.YtlhoedpencmikaaGreatDoorProg
import Derived.Lib.Hide
import Derived.Test.YtlhoedpencmikaaGreatDoorRows
import Derived.Test.YtlhoedpencmikaaGreatDoorLaid
import Derived.Test.YtlhoedpencmikaaGreatDoorGagg
import Derived.ChangeOld
import Derived.WalkKit
import Derived.ProofKit
import Derived.OpenShut
import Derived.Test.YtlhoedpencmikaaGreatDoorGst
import Derived.ChangeKeysEq
import Derived.Test.YtlhoedpencmikaaGreatDoorGtwel
namespace Go.Proofs.YtlhoedpencmikaaGreatDoor
set_option linter.unusedVariables false
set_option linter.unusedSimpArgs false

/-- the way that is to go -/
def viN (t : Nat) : Nat := if t % 2 = 0 then t / 2 % 2 else 2 + t / 4
/-- the tree when the way was touched -/
def toN (t w : Nat) : Nat := if w = 0 then 3 + t / 4 * 4 else if w = 1 then 1 + t / 4 * 4 else if w = 2 then t / 2 % 2 * 2 + 4 else t / 2 % 2 * 2
theorem vi_lt {t : Nat} (h : t < 8) : viN t < 4 := by unfold viN; split <;> omega
theorem to_lt {t : Nat} (h : t < 8) (w : Nat) : toN t w < 8 := by
  unfold toN; split
  · omega
  split
  · omega
  split <;> omega
theorem eight {t : Nat} (h : t < 8) : t = 0 ∨ t = 1 ∨ t = 2 ∨ t = 3 ∨ t = 4 ∨ t = 5 ∨ t = 6 ∨ t = 7 := by omega
theorem four {t : Nat} (h : t < 4) : t = 0 ∨ t = 1 ∨ t = 2 ∨ t = 3 := by omega
theorem vi_tab : viN 0 = 0 ∧ viN 1 = 2 ∧ viN 2 = 1 ∧ viN 3 = 2 ∧ viN 4 = 0 ∧ viN 5 = 3 ∧ viN 6 = 1 ∧ viN 7 = 3 := ⟨rfl, rfl, rfl, rfl, rfl, rfl, rfl, rfl⟩
theorem to_tab0 : toN 0 0 = 3 ∧ toN 1 0 = 3 ∧ toN 2 0 = 3 ∧ toN 3 0 = 3 ∧ toN 4 0 = 7 ∧ toN 5 0 = 7 ∧ toN 6 0 = 7 ∧ toN 7 0 = 7 := ⟨rfl, rfl, rfl, rfl, rfl, rfl, rfl, rfl⟩
theorem to_tab1 : toN 0 1 = 1 ∧ toN 1 1 = 1 ∧ toN 2 1 = 1 ∧ toN 3 1 = 1 ∧ toN 4 1 = 5 ∧ toN 5 1 = 5 ∧ toN 6 1 = 5 ∧ toN 7 1 = 5 := ⟨rfl, rfl, rfl, rfl, rfl, rfl, rfl, rfl⟩
theorem to_tab2 : toN 0 2 = 4 ∧ toN 1 2 = 4 ∧ toN 2 2 = 6 ∧ toN 3 2 = 6 ∧ toN 4 2 = 4 ∧ toN 5 2 = 4 ∧ toN 6 2 = 6 ∧ toN 7 2 = 6 := ⟨rfl, rfl, rfl, rfl, rfl, rfl, rfl, rfl⟩
theorem to_tab3 : toN 0 3 = 0 ∧ toN 1 3 = 0 ∧ toN 2 3 = 2 ∧ toN 3 3 = 2 ∧ toN 4 3 = 0 ∧ toN 5 3 = 0 ∧ toN 6 3 = 2 ∧ toN 7 3 = 2 := ⟨rfl, rfl, rfl, rfl, rfl, rfl, rfl, rfl⟩
attribute [irreducible] viN toN

end Go.Proofs.YtlhoedpencmikaaGreatDoor
/- Package plru, and the document's trees (atlasref11): what each function answers. What a touch does lies in the package's variable. -/
namespace Go.Proofs.YtlhoedpencmikaaGreatDoor
open Go.ChangeShapes Go.WideShapes Go.ChangeAt Go.RowKit
set_option linter.unusedVariables false
set_option linter.unusedSimpArgs false
set_option maxRecDepth 10000

def touC : Array Value := #[.int .u8 3, .int .u8 3, .int .u8 3, .int .u8 1, .int .u8 5, .int .u8 4, .int .u8 5, .int .u8 0]
/-- the table lies in its variable -/
def Tous (w : World) : Prop := Vr w 2 touC
theorem Tous.ext {w w' : World} (h : Tous w) (hE : Ext w w') : Tous w' := Vr.ext h hE
theorem is11_c (t : Nat) (w : World) :
    Calls Tryz.prog 120 #[.int .u8 (t : Int)] w fun e w' => e = .returned (.bool (decide ((t : Int) < 8))) ∧ w' = w := by
  go_enter Tryz.func120, Tryz.ntmps120
  go_wp2
  go_ret
  exact ⟨rfl, rfl⟩
theorem vic_c (t : Nat) (h : t < 8) (w : World) :
    Calls Tryz.prog 143 #[.int .u8 (t : Int)] w fun e w' => e = .returned (.int .i64 ((viN t : Nat) : Int)) ∧ w' = w := by
  obtain ⟨v0, v1, v2, v3, v4, v5, v6, v7⟩ := vi_tab
  rcases eight h with rfl | rfl | rfl | rfl | rfl | rfl | rfl | rfl
  all_goals
    simp only [v0, v1, v2, v3, v4, v5, v6, v7]
    clear v0 v1 v2 v3 v4 v5 v6 v7 h
    go_enter Tryz.func143, Tryz.ntmps143
    go_wp2
    go_ret
    exact ⟨rfl, rfl⟩
theorem rvic_c (t : Nat) (h : t < 8) (w : World) :
    Calls Tryz.prog 111 #[.int .u8 (t : Int)] w fun e w' => e = .returned (.int .i64 ((viN t : Nat) : Int)) ∧ w' = w := by
  obtain ⟨v0, v1, v2, v3, v4, v5, v6, v7⟩ := vi_tab
  rcases eight h with rfl | rfl | rfl | rfl | rfl | rfl | rfl | rfl
  all_goals
    simp only [v0, v1, v2, v3, v4, v5, v6, v7]
    clear v0 v1 v2 v3 v4 v5 v6 v7 h
    go_enter Tryz.func111, Tryz.ntmps111
    go_wp2
    go_ret
    exact ⟨rfl, rfl⟩
set_option maxHeartbeats 2000000 in
theorem tou_c (t v : Nat) (h : t < 8) (hv : v < 4) (w : World) (hT : Tous w) :
    Calls Tryz.prog 144 #[.int .u8 (t : Int), .int .i64 (v : Int)] w fun e w' => e = .returned (.int .u8 ((toN t v : Nat) : Int)) ∧ Ext w w' := by
  have c0 : w.cell? ⟨2, 2 * v, none⟩ = touC[2 * v]? := hT.cell _
  have c1 : w.cell? ⟨2, 2 * v + 1, none⟩ = touC[2 * v + 1]? := hT.cell _
  clear hT
  rcases four hv with rfl | rfl | rfl | rfl
  · obtain ⟨v0, v1, v2, v3, v4, v5, v6, v7⟩ := to_tab0
    rcases eight h with rfl | rfl | rfl | rfl | rfl | rfl | rfl | rfl
    all_goals
      simp only [Nat.reduceMul, Nat.reduceAdd, touC] at c0 c1
      simp only [List.getElem?_toArray, List.getElem?_cons_succ, List.getElem?_cons_zero] at c0 c1
      simp only [v0, v1, v2, v3, v4, v5, v6, v7]
      clear v0 v1 v2 v3 v4 v5 v6 v7 h hv
      have hl := block_lt_of_cell c0
      simp only at hl
      go_enter Tryz.func144, Tryz.ntmps144
      go_wp2
      go_ret
      exact ⟨rfl, (Ext.refl w).alloc _⟩
  · obtain ⟨v0, v1, v2, v3, v4, v5, v6, v7⟩ := to_tab1
    rcases eight h with rfl | rfl | rfl | rfl | rfl | rfl | rfl | rfl
    all_goals
      simp only [Nat.reduceMul, Nat.reduceAdd, touC] at c0 c1
      simp only [List.getElem?_toArray, List.getElem?_cons_succ, List.getElem?_cons_zero] at c0 c1
      simp only [v0, v1, v2, v3, v4, v5, v6, v7]
      clear v0 v1 v2 v3 v4 v5 v6 v7 h hv
      have hl := block_lt_of_cell c0
      simp only at hl
      go_enter Tryz.func144, Tryz.ntmps144
      go_wp2
      go_ret
      exact ⟨rfl, (Ext.refl w).alloc _⟩
  · obtain ⟨v0, v1, v2, v3, v4, v5, v6, v7⟩ := to_tab2
    rcases eight h with rfl | rfl | rfl | rfl | rfl | rfl | rfl | rfl
    all_goals
      simp only [Nat.reduceMul, Nat.reduceAdd, touC] at c0 c1
      simp only [List.getElem?_toArray, List.getElem?_cons_succ, List.getElem?_cons_zero] at c0 c1
      simp only [v0, v1, v2, v3, v4, v5, v6, v7]
      clear v0 v1 v2 v3 v4 v5 v6 v7 h hv
      have hl := block_lt_of_cell c0
      simp only at hl
      go_enter Tryz.func144, Tryz.ntmps144
      go_wp2
      go_ret
      exact ⟨rfl, (Ext.refl w).alloc _⟩
  · obtain ⟨v0, v1, v2, v3, v4, v5, v6, v7⟩ := to_tab3
    rcases eight h with rfl | rfl | rfl | rfl | rfl | rfl | rfl | rfl
    all_goals
      simp only [Nat.reduceMul, Nat.reduceAdd, touC] at c0 c1
      simp only [List.getElem?_toArray, List.getElem?_cons_succ, List.getElem?_cons_zero] at c0 c1
      simp only [v0, v1, v2, v3, v4, v5, v6, v7]
      clear v0 v1 v2 v3 v4 v5 v6 v7 h hv
      have hl := block_lt_of_cell c0
      simp only at hl
      go_enter Tryz.func144, Tryz.ntmps144
      go_wp2
      go_ret
      exact ⟨rfl, (Ext.refl w).alloc _⟩
set_option maxHeartbeats 2000000 in
theorem rtou_c (t v : Nat) (h : t < 8) (hv : v < 4) (w : World) :
    Calls Tryz.prog 147 #[.int .u8 (t : Int), .int .i64 (v : Int)] w fun e w' => e = .returned (.int .u8 ((toN t v : Nat) : Int)) ∧ w' = w := by
  rcases four hv with rfl | rfl | rfl | rfl
  · obtain ⟨v0, v1, v2, v3, v4, v5, v6, v7⟩ := to_tab0
    rcases eight h with rfl | rfl | rfl | rfl | rfl | rfl | rfl | rfl
    all_goals
      simp only [v0, v1, v2, v3, v4, v5, v6, v7]
      clear v0 v1 v2 v3 v4 v5 v6 v7 h hv
      go_enter Tryz.func147, Tryz.ntmps147
      go_wp2
      go_ret
      exact ⟨rfl, rfl⟩
  · obtain ⟨v0, v1, v2, v3, v4, v5, v6, v7⟩ := to_tab1
    rcases eight h with rfl | rfl | rfl | rfl | rfl | rfl | rfl | rfl
    all_goals
      simp only [v0, v1, v2, v3, v4, v5, v6, v7]
      clear v0 v1 v2 v3 v4 v5 v6 v7 h hv
      go_enter Tryz.func147, Tryz.ntmps147
      go_wp2
      go_ret
      exact ⟨rfl, rfl⟩
  · obtain ⟨v0, v1, v2, v3, v4, v5, v6, v7⟩ := to_tab2
    rcases eight h with rfl | rfl | rfl | rfl | rfl | rfl | rfl | rfl
    all_goals
      simp only [v0, v1, v2, v3, v4, v5, v6, v7]
      clear v0 v1 v2 v3 v4 v5 v6 v7 h hv
      go_enter Tryz.func147, Tryz.ntmps147
      go_wp2
      go_ret
      exact ⟨rfl, rfl⟩
  · obtain ⟨v0, v1, v2, v3, v4, v5, v6, v7⟩ := to_tab3
    rcases eight h with rfl | rfl | rfl | rfl | rfl | rfl | rfl | rfl
    all_goals
      simp only [v0, v1, v2, v3, v4, v5, v6, v7]
      clear v0 v1 v2 v3 v4 v5 v6 v7 h hv
      go_enter Tryz.func147, Tryz.ntmps147
      go_wp2
      go_ret
      exact ⟨rfl, rfl⟩
end Go.Proofs.YtlhoedpencmikaaGreatDoor
/- Four entries (an array of api.Entry) and a set of the buffer (api.Set): as values, held against one another, stored and loaded whole and by parts. -/
namespace Go.Proofs.YtlhoedpencmikaaGreatDoor
open Go.ChangeShapes Go.WideShapes Go.ChangeAt Go.RowKit Go.Joins Go.Deep
set_option linter.unusedVariables false
set_option linter.unusedSimpArgs false
set_option maxRecDepth 10000

structure Ws where
  a : En
  b : En
  c : En
  d : En
deriving DecidableEq
structure St where
  ws : Ws
  t : Nat
deriving DecidableEq
def Ws.ok (s : Ws) : Prop := s.a.ok ∧ s.b.ok ∧ s.c.ok ∧ s.d.ok
def St.ok (s : St) : Prop := s.ws.ok ∧ s.t < 256
def Ws.at (s : Ws) (k : Nat) : En := if k = 0 then s.a else if k = 1 then s.b else if k = 2 then s.c else s.d
def Ws.put (s : Ws) (k : Nat) (e : En) : Ws := if k = 0 then { s with a := e } else if k = 1 then { s with b := e } else if k = 2 then { s with c := e } else { s with d := e }
def St.put (s : St) (k : Nat) (e : En) : St := ⟨s.ws.put k e, s.t⟩
theorem at_0 (s : Ws) : s.at 0 = s.a := rfl
theorem at_1 (s : Ws) : s.at 1 = s.b := rfl
theorem at_2 (s : Ws) : s.at 2 = s.c := rfl
theorem at_3 (s : Ws) : s.at 3 = s.d := rfl
theorem put_0 (s : Ws) (e : En) : s.put 0 e = ⟨e, s.b, s.c, s.d⟩ := rfl
theorem put_1 (s : Ws) (e : En) : s.put 1 e = ⟨s.a, e, s.c, s.d⟩ := rfl
theorem put_2 (s : Ws) (e : En) : s.put 2 e = ⟨s.a, s.b, e, s.d⟩ := rfl
theorem put_3 (s : Ws) (e : En) : s.put 3 e = ⟨s.a, s.b, s.c, e⟩ := rfl
theorem k_four {k : Nat} (h : k < 4) : k = 0 ∨ k = 1 ∨ k = 2 ∨ k = 3 := by omega
theorem at_ok {s : Ws} (h : s.ok) {k : Nat} (hk : k < 4) : (s.at k).ok := by
  rcases k_four hk with rfl | rfl | rfl | rfl
  · exact h.1
  · exact h.2.1
  · exact h.2.2.1
  · exact h.2.2.2
theorem at_put {s : Ws} {k j : Nat} (hk : k < 4) (hj : j < 4) (e : En) : (s.put k e).at j = if j = k then e else s.at j := by
  rcases k_four hk with rfl | rfl | rfl | rfl <;> rcases k_four hj with rfl | rfl | rfl | rfl <;> rfl
theorem ws_ext {s t : Ws} (h : ∀ k, k < 4 → s.at k = t.at k) : s = t := by
  have h0 := h 0 (by decide)
  have h1 := h 1 (by decide)
  have h2 := h 2 (by decide)
  have h3 := h 3 (by decide)
  cases s; cases t
  simp only [at_0, at_1, at_2, at_3] at h0 h1 h2 h3
  subst h0 h1 h2 h3
  rfl

def wsC (s : Ws) : Array Value := enC s.a ++ enC s.b ++ enC s.c ++ enC s.d
def stC (s : St) : Array Value := wsC s.ws ++ #[.int .u8 (s.t : Int)]
theorem wsC_eq (s : Ws) : wsC s = enC s.a ++ enC s.b ++ enC s.c ++ enC s.d := rfl
theorem stC_eq (s : St) : stC s = wsC s.ws ++ #[.int .u8 (s.t : Int)] := rfl
theorem wsC_size (s : Ws) : (wsC s).size = 44 := by simp [wsC_eq, enC_size]
theorem stC_size (s : St) : (stC s).size = 45 := by simp [stC_eq, wsC_size]
theorem wsC_one (s : Ws) : (wsC s).all (·.oneCell') = true := by simp only [wsC_eq, Array.all_append, enC_one, Bool.and_self]
theorem stC_one (s : St) : (stC s).all (·.oneCell') = true := by rw [stC_eq, Array.all_append, wsC_one]; simp [Value.oneCell']
theorem ws_info (s : Ws) : (Tryz.prog.info? 67).map (·.size) = some (wsC s).size := by rw [wsC_size]; kernel_rfl
theorem st_info (s : St) : (Tryz.prog.info? 69).map (·.size) = some (stC s).size := by rw [stC_size]; kernel_rfl
theorem wsC_at (s : Ws) {k : Nat} (hk : k < 4) : (wsC s).extract (k * 11) (k * 11 + (enC (s.at k)).size) = enC (s.at k) := by
  rw [enC_size]
  rcases k_four hk with rfl | rfl | rfl | rfl
  all_goals
    simp only [at_0, at_1, at_2, at_3, wsC_eq, enC_eq, pmC_eq]
    kernel_rfl
theorem stC_at (s : St) {k : Nat} (hk : k < 4) : (stC s).extract (k * 11) (k * 11 + (enC (s.ws.at k)).size) = enC (s.ws.at k) := by
  rw [enC_size]
  rcases k_four hk with rfl | rfl | rfl | rfl
  all_goals
    simp only [at_0, at_1, at_2, at_3, stC_eq, wsC_eq, enC_eq, pmC_eq]
    kernel_rfl
theorem stC_ws (s : St) : (stC s).extract 0 (0 + (wsC s.ws).size) = wsC s.ws := by
  rw [wsC_size]
  simp only [stC_eq, wsC_eq, enC_eq, pmC_eq]
  kernel_rfl
theorem stC_put (s : St) {k : Nat} (hk : k < 4) (e : En) : putAt (stC s) (k * 11) (enC e).toList = stC (s.put k e) := by
  rcases k_four hk with rfl | rfl | rfl | rfl
  all_goals
    simp only [St.put, put_0, put_1, put_2, put_3, stC_eq, wsC_eq, enC_eq, pmC_eq]
    kernel_rfl
theorem stC_t (s : St) : (stC s)[44]? = some (.int .u8 (s.t : Int)) := by
  rw [stC_eq, Array.getElem?_append_right (by rw [wsC_size]; decide), wsC_size]; rfl
theorem stC_set_t (s : St) (x : Nat) {y : Int} (h : y = (x : Int)) : (stC s).setIfInBounds 44 (.int .u8 y) = stC ⟨s.ws, x⟩ := by
  subst h
  simp only [stC_eq, wsC_eq, enC_eq, pmC_eq]
  kernel_rfl
/-- a way's cells -/
theorem cell_part {A B : Array Value} {o i : Nat} (h : A.extract o (o + B.size) = B) (hi : i < B.size) : A[o + i]? = B[i]? := by
  have hs : (A.extract o (o + B.size)).size = B.size := by rw [h]
  have hle : o + i < A.size := by simp only [Array.size_extract] at hs; omega
  have e1 : (A.extract o (o + B.size))[i]? = B[i]? := by rw [h]
  rw [← e1, Array.getElem?_extract]
  rw [if_pos (by omega)]
theorem Blk.way {w : World} {g : Nat} {t : TypeId} {s : St} (h : Blk w g t (stC s)) {k i : Nat} (hk : k < 4) (hi : i < 11) : w.cell? ⟨g, k * 11 + i, none⟩ = (enC (s.ws.at k))[i]? :=
  (h.cell _).trans (cell_part (stC_at s hk) (by rw [enC_size]; exact hi))
theorem Blk.st_t {w : World} {g : Nat} {t : TypeId} {s : St} (h : Blk w g t (stC s)) : w.cell? ⟨g, 44, none⟩ = some (.int .u8 (s.t : Int)) := (h.cell 44).trans (stC_t s)
/-! held against one another -/
theorem run_eqI {P : Program} {w : World} {d : Nat} {t : TypeId} {c j : Nat} {xs ys : Array Value} {is : List Nat} {a b : Value} {r s : Bool} (ha : (part t xs (j * c)).run P w = .ok a w) (hb : (part t ys (j * c)).run P w = .ok b w)
    (he : (Op.equalIn d t a b).run P w = .ok r w) (h : (Op.eqItems d t c xs ys is).run P w = .ok s w) : (Op.eqItems d t c xs ys (j :: is)).run P w = .ok (r && s) w := by
  simp only [Op.eqItems, Sem.run_bind, ha, hb, he, Result.andThen_ok]
  cases r
  · simp [Sem.run_pure]
  · simpa using h
theorem ws_part {w : World} (s : Ws) {k : Nat} (hk : k < 4) : (part 66 (wsC s) (k * 11)).run Tryz.prog w = .ok (.agg (enC (s.at k))) w :=
  part_agg Tryz.underlying66 rfl (by rw [enC_size]; kernel_rfl) (wsC_at s hk)
attribute [irreducible] wsC
theorem eqlIn_ws (D0 : Nat) (w : World) (p q : Ws) : (Op.equalIn (D0 + 1 + 1 + 1 + 1) 67 (.agg (wsC p)) (.agg (wsC q))).run Tryz.prog w = .ok (decide (p = q)) w := by
  have hi : ∃ i, Tryz.prog.info? 66 = some i := by
    have h := en_info ⟨false, 0, false, 0, 0, 0, ⟨false, false, false, false⟩, false⟩
    cases hq : Tryz.prog.info? 66 with
    | none => rw [hq] at h; cases h
    | some i => exact ⟨i, rfl⟩
  obtain ⟨i, hi⟩ := hi
  rw [run_equalIn_array (e := 66) (n := 4) (i := i) w _ _ _ Tryz.underlying67 hi]
  have hc : Tryz.prog.cellsOf 66 = 11 := by kernel_rfl
  rw [hc]
  have hd : decide (p = q) = (decide (p.at 0 = q.at 0) && (decide (p.at 1 = q.at 1) && (decide (p.at 2 = q.at 2) && (decide (p.at 3 = q.at 3) && true)))) := by
    rw [Bool.eq_iff_iff]
    simp only [Bool.and_eq_true, decide_eq_true_iff, and_true]
    constructor
    · rintro rfl; exact ⟨rfl, rfl, rfl, rfl⟩
    · rintro ⟨h0, h1, h2, h3⟩
      refine ws_ext fun k hk => ?_
      rcases k_four hk with rfl | rfl | rfl | rfl
      · exact h0
      · exact h1
      · exact h2
      · exact h3
  rw [hd]
  have he : ∀ a b : En, (Op.equalIn (D0 + 1 + 1 + 1) 66 (.agg (enC a)) (.agg (enC b))).run Tryz.prog w = .ok (decide (a = b)) w := fun a b => eqlIn_en D0 w a b
  generalize D0 + 1 + 1 + 1 = D at he ⊢
  show (Op.eqItems D 66 11 (wsC p) (wsC q) [0, 1, 2, 3]).run Tryz.prog w = _
  refine run_eqI (ws_part p (by decide)) (ws_part q (by decide)) (he _ _) ?_
  refine run_eqI (ws_part p (by decide)) (ws_part q (by decide)) (he _ _) ?_
  refine run_eqI (ws_part p (by decide)) (ws_part q (by decide)) (he _ _) ?_
  refine run_eqI (ws_part p (by decide)) (ws_part q (by decide)) (he _ _) ?_
  simp [Op.eqItems, Sem.run_pure]
theorem eqlIn_st (D0 : Nat) (w : World) (p q : St) : (Op.equalIn (D0 + 1 + 1 + 1 + 1 + 1) 69 (.agg (stC p)) (.agg (stC q))).run Tryz.prog w = .ok (decide (p = q)) w := by
  have hp : Tryz.prog.stoodInHeld 69 = false := by kernel_rfl
  rw [run_equalIn_agg w _ _ _ _ (by simp [Program.fieldsOf, Tryz.underlying69]) hp]
  have hd : decide (p = q) = (decide (p.ws = q.ws) && ((p.t : Int) == q.t && true)) := by
    obtain ⟨ws, t⟩ := p
    obtain ⟨ws', t'⟩ := q
    rw [Bool.eq_iff_iff]
    simp
    (omega)
  rw [hd]
  have h_u8 : ∀ a b : Int, (Op.equalIn (D0 + 1 + 1 + 1 + 1) 5 (.int .u8 a) (.int .u8 b)).run Tryz.prog w = .ok (a == b) w := fun a b => run_equalIn_int w (D0 + 1 + 1 + 1) _ _ _ _ _ Tryz.underlying5
  have h_ws : ∀ a b : Ws, (Op.equalIn (D0 + 1 + 1 + 1 + 1) 67 (.agg (wsC a)) (.agg (wsC b))).run Tryz.prog w = .ok (decide (a = b)) w := fun a b => eqlIn_ws D0 w a b
  generalize D0 + 1 + 1 + 1 + 1 = D at h_u8 h_ws ⊢
  have key : (Op.eqFields D (stC p) (stC q) (Program.fieldsOf Tryz.prog 69).toList).run Tryz.prog w = .ok (decide (p.ws = q.ws) && ((p.t : Int) == q.t && true)) w := by
    simp only [Program.fieldsOf, Tryz.underlying69]
    refine run_eqF ?_ (part_agg Tryz.underlying67 rfl (ws_info _) (stC_ws p)) (part_agg Tryz.underlying67 rfl (ws_info _) (stC_ws q)) (h_ws _ _) ?_
    · simp
    refine run_eqF ?_ (part_int Tryz.underlying5 (stC_t p)) (part_int Tryz.underlying5 (stC_t q)) (h_u8 _ _) ?_
    · simp
    simp [Op.eqFields, Sem.run_pure]
  first
    | exact key
    | (simp only [Program.fieldsOf, Tryz.underlying69] at key ⊢; exact key)
attribute [irreducible] stC
theorem eql_st (w : World) (p q : St) : (binOp .eql 69 (.agg (stC p)) (.agg (stC q))).run Tryz.prog w = .ok (.bool (decide (p = q))) w := by
  rw [run_eql_struct, show (10000 : Nat) = 9995 + 1 + 1 + 1 + 1 + 1 from rfl, eqlIn_st 9995]; rfl
theorem neq_st (w : World) (p q : St) : (binOp .neq 69 (.agg (stC p)) (.agg (stC q))).run Tryz.prog w = .ok (.bool (!decide (p = q))) w := neq_of_eql (eql_st w p q)
theorem st_guard : Tryz.prog.eqGuardType Tryz.prog.depth 69 = false := by kernel_rfl
end Go.Proofs.YtlhoedpencmikaaGreatDoor
/- Sets of the buffer as plain values: of the same page, what is found, put, and what follows. No program. -/
namespace Go.Proofs.YtlhoedpencmikaaGreatDoor
set_option linter.unusedVariables false
set_option linter.unusedSimpArgs false

def sameE (e f : En) : Bool := e.v && (f.v && ((e.l == f.l) && ((e.vp == f.vp) && (e.g || (f.g || (e.n == f.n))))))
def rightS (s : St) : Bool := decide (s.t < 8) && (mayE s.ws.a && (mayE s.ws.b && (mayE s.ws.c && mayE s.ws.d)))
/-- the least way of which it is so, or 0; and whether there is one -/
def fiW (p : En → Bool) (s : Ws) : Nat := if p s.a then 0 else if p s.b then 1 else if p s.c then 2 else if p s.d then 3 else 0
def fbW (p : En → Bool) (s : Ws) : Bool := p s.a || (p s.b || (p s.c || p s.d))
def hitE (n a l : Int) (e : En) : Bool := (e.l == l) && matE e n a
def emptyE (e : En) : Bool := !e.v
/-- behind the dropping of those of the same page, ahead of k -/
def dropK (e : En) (s : Ws) : Nat → Ws
  | 0 => s
  | k + 1 => if sameE e (s.at k) then (dropK e s k).put k e0 else dropK e s k
def cutW (e : En) (s : Ws) : Ws := dropK e s 4
/-- the way that is filled -/
def wayS (e : En) (v : Int) (s : St) : Nat := if 0 ≤ v ∧ v < 4 then v.toNat else if fbW emptyE (cutW e s.ws) then fiW emptyE (cutW e s.ws) else viN s.t
def putS (e : En) (v : Int) (s : St) : St := ⟨(cutW e s.ws).put (wayS e v s) e, toN s.t (wayS e v s)⟩
/-- no two ways are of the same page -/
def unlS (s : Ws) : Bool := !sameE s.b s.a && (!sameE s.c s.a && (!sameE s.c s.b && (!sameE s.d s.a && (!sameE s.d s.b && !sameE s.d s.c))))
def s0 : St := ⟨⟨e0, e0, e0, e0⟩, 0⟩

theorem fi_hit {p : En → Bool} {s : Ws} {k : Nat} (hk : k < 4) (h : ∀ j, j < k → p (s.at j) = false) (hp : p (s.at k) = true) : fiW p s = k ∧ fbW p s = true := by
  unfold fiW fbW
  rcases k_four hk with rfl | rfl | rfl | rfl
  · rw [at_0] at hp; simp [hp]
  · have h0 := h 0 (by decide)
    rw [at_0] at h0; rw [at_1] at hp; simp [hp, h0]
  · have h0 := h 0 (by decide)
    have h1 := h 1 (by decide)
    rw [at_0] at h0; rw [at_1] at h1; rw [at_2] at hp; simp [hp, h0, h1]
  · have h0 := h 0 (by decide)
    have h1 := h 1 (by decide)
    have h2 := h 2 (by decide)
    rw [at_0] at h0; rw [at_1] at h1; rw [at_2] at h2; rw [at_3] at hp; simp [hp, h0, h1, h2]
theorem fi_none {p : En → Bool} {s : Ws} (h : ∀ j, j < 4 → p (s.at j) = false) : fiW p s = 0 ∧ fbW p s = false := by
  have h0 := h 0 (by decide)
  have h1 := h 1 (by decide)
  have h2 := h 2 (by decide)
  have h3 := h 3 (by decide)
  rw [at_0] at h0; rw [at_1] at h1; rw [at_2] at h2; rw [at_3] at h3
  unfold fiW fbW
  simp [h0, h1, h2, h3]
theorem fi_is {p : En → Bool} {s : Ws} (h : fbW p s = true) : fiW p s < 4 ∧ p (s.at (fiW p s)) = true ∧ ∀ j, j < fiW p s → p (s.at j) = false := by
  unfold fbW at h
  unfold fiW
  cases ha : p s.a
  · cases hb : p s.b
    · cases hc : p s.c
      · cases hd : p s.d
        · rw [ha, hb, hc, hd] at h; cases h
        · simp only [Bool.false_eq_true, if_false, if_true]
          refine ⟨by decide, hd, fun j hj => ?_⟩
          rcases (by omega : j = 0 ∨ j = 1 ∨ j = 2) with rfl | rfl | rfl
          · exact ha
          · exact hb
          · exact hc
      · simp only [Bool.false_eq_true, if_false, if_true]
        refine ⟨by decide, hc, fun j hj => ?_⟩
        rcases (by omega : j = 0 ∨ j = 1) with rfl | rfl
        · exact ha
        · exact hb
    · simp only [Bool.false_eq_true, if_false, if_true]
      refine ⟨by decide, hb, fun j hj => ?_⟩
      obtain rfl : j = 0 := by omega
      exact ha
  · simp only [if_true]
    exact ⟨by decide, ha, fun j hj => absurd hj (by omega)⟩
theorem fi_not {p : En → Bool} {s : Ws} (h : fbW p s = false) : fiW p s = 0 ∧ ∀ j, j < 4 → p (s.at j) = false := by
  unfold fbW at h
  simp only [Bool.or_eq_false_iff] at h
  obtain ⟨ha, hb, hc, hd⟩ := h
  have key : ∀ j, j < 4 → p (s.at j) = false := fun j hj => by
    rcases k_four hj with rfl | rfl | rfl | rfl
    · exact ha
    · exact hb
    · exact hc
    · exact hd
  exact ⟨(fi_none key).1, key⟩
theorem fi_lt (p : En → Bool) (s : Ws) : fiW p s < 4 := by
  cases h : fbW p s
  · rw [(fi_not h).1]; decide
  · exact (fi_is h).1
theorem fi_le {p : En → Bool} {s : Ws} {k : Nat} (hk : k < 4) (hp : p (s.at k) = true) : fbW p s = true ∧ fiW p s ≤ k := by
  cases h : fbW p s
  · rw [(fi_not h).2 k hk] at hp; cases hp
  · refine ⟨rfl, ?_⟩
    rcases Nat.lt_or_ge k (fiW p s) with hlt | hge
    · rw [(fi_is h).2.2 k hlt] at hp; cases hp
    · exact hge

theorem right_t {s : St} (h : rightS s = true) : s.t < 8 := by
  unfold rightS at h
  simp only [Bool.and_eq_true, decide_eq_true_iff] at h
  exact h.1
theorem right_may {s : St} (h : rightS s = true) {k : Nat} (hk : k < 4) : mayE (s.ws.at k) = true := by
  unfold rightS at h
  simp only [Bool.and_eq_true, decide_eq_true_iff] at h
  obtain ⟨_, ha, hb, hc, hd⟩ := h
  rcases k_four hk with rfl | rfl | rfl | rfl
  · exact ha
  · exact hb
  · exact hc
  · exact hd
theorem right_of {s : St} (ht : s.t < 8) (h : ∀ k, k < 4 → mayE (s.ws.at k) = true) : rightS s = true := by
  unfold rightS
  simp only [Bool.and_eq_true, decide_eq_true_iff]
  exact ⟨ht, h 0 (by decide), h 1 (by decide), h 2 (by decide), h 3 (by decide)⟩
/-- Right, by the least way that may not be -/
theorem right_fb (s : St) : (decide ((s.t : Int) < 8) && !fbW (fun e => !mayE e) s.ws) = rightS s := by
  unfold rightS fbW
  rw [show decide ((s.t : Int) < 8) = decide (s.t < 8) from by rw [Bool.eq_iff_iff, decide_eq_true_iff, decide_eq_true_iff]; omega]
  exact (by decide : ∀ a b c d x : Bool, (x && !(!a || (!b || (!c || !d)))) = (x && (a && (b && (c && d))))) _ _ _ _ _
theorem right_yes {s : St} (h : ∀ j, j < 4 → mayE (s.ws.at j) = true) : decide ((s.t : Int) < 8) = rightS s := by
  rw [← right_fb, (fi_none (p := fun e => !mayE e) fun j hj => by simp only [h j hj]; rfl).2]; simp
theorem right_no {s : St} {k : Nat} (hk : k < 4) (h : mayE (s.ws.at k) = false) : rightS s = false := by
  cases hr : rightS s
  · rfl
  · rw [right_may hr hk] at h; cases h

theorem e0_v : e0.v = false := by unfold e0; rfl
theorem drop_none (e : En) (s : Ws) : dropK e s 0 = s := rfl
theorem drop_next (e : En) (s : Ws) (k : Nat) : (if sameE e (s.at k) then (dropK e s k).put k e0 else dropK e s k) = dropK e s (k + 1) := rfl
theorem drop_yes {e : En} {s : Ws} {k : Nat} (h : sameE e (s.at k) = true) : (dropK e s k).put k e0 = dropK e s (k + 1) := by rw [← drop_next, if_pos h]
theorem drop_no {e : En} {s : Ws} {k : Nat} (h : sameE e (s.at k) = false) : dropK e s k = dropK e s (k + 1) := by rw [← drop_next, h]; rfl
theorem drop_cut (e : En) (s : Ws) : dropK e s 4 = cutW e s := rfl
theorem drop_at (e : En) (s : Ws) : ∀ k, k ≤ 4 → ∀ j, j < 4 → (dropK e s k).at j = if j < k then (if sameE e (s.at j) then e0 else s.at j) else s.at j
  | 0, _, j, _ => by rw [drop_none, if_neg (by omega)]
  | k + 1, hk, j, hj => by
    have ih := drop_at e s k (by omega) j hj
    cases h : sameE e (s.at k)
    · rw [← drop_no h, ih]
      by_cases hl : j < k
      · rw [if_pos hl, if_pos (show j < k + 1 by omega)]
      · rw [if_neg hl]
        by_cases hjk : j = k
        · subst hjk
          rw [if_pos (show j < j + 1 by omega), h]; rfl
        · rw [if_neg (show ¬ j < k + 1 by omega)]
    · rw [← drop_yes h, at_put (show k < 4 by omega) hj, ih]
      by_cases hjk : j = k
      · subst hjk
        rw [if_pos rfl, if_pos (show j < j + 1 by omega), h]; rfl
      · rw [if_neg hjk]
        by_cases hl : j < k
        · rw [if_pos hl, if_pos (show j < k + 1 by omega)]
        · rw [if_neg hl, if_neg (show ¬ j < k + 1 by omega)]
theorem cut_at (e : En) (s : Ws) {j : Nat} (hj : j < 4) : (cutW e s).at j = if sameE e (s.at j) then e0 else s.at j := by
  rw [← drop_cut, drop_at e s 4 (by omega) j hj, if_pos hj]
theorem way_lt {e : En} {v : Int} {s : St} (h : s.t < 8) : wayS e v s < 4 := by
  unfold wayS
  split
  · omega
  split
  · exact fi_lt _ _
  · exact vi_lt h
theorem way_vic {e : En} {v : Int} {s : St} (h0 : 0 ≤ v) (h1 : v < 4) : (wayS e v s : Int) = v := by
  unfold wayS; rw [if_pos ⟨h0, h1⟩]; omega
theorem way_fst {e : En} {v : Int} {s : St} (h : ¬ (0 ≤ v ∧ v < 4)) (hb : fbW emptyE (cutW e s.ws) = true) : wayS e v s = fiW emptyE (cutW e s.ws) := by
  unfold wayS; rw [if_neg h, if_pos hb]
theorem way_old {e : En} {v : Int} {s : St} (h : ¬ (0 ≤ v ∧ v < 4)) (hb : fbW emptyE (cutW e s.ws) = false) : wayS e v s = viN s.t := by
  unfold wayS; rw [if_neg h, if_neg (by simp [hb])]
theorem putS_ws (e : En) (v : Int) (s : St) : (putS e v s).ws = (cutW e s.ws).put (wayS e v s) e := rfl
theorem putS_eq (e : En) (v : Int) (s : St) : putS e v s = ⟨(cutW e s.ws).put (wayS e v s) e, toN s.t (wayS e v s)⟩ := rfl
theorem putS_at {e : En} {v : Int} {s : St} (h : s.t < 8) {j : Nat} (hj : j < 4) : (putS e v s).ws.at j = if j = wayS e v s then e else if sameE e (s.ws.at j) then e0 else s.ws.at j := by
  rw [putS_ws, at_put (way_lt h) hj, cut_at e s.ws hj]

theorem may_e0 : mayE e0 = true := by unfold mayE; rw [if_neg (by rw [e0_v]; decide)]; exact decide_eq_true rfl
theorem right_put {s : St} (h : rightS s = true) {e : En} (he : mayE e = true) {k : Nat} (hk : k < 4) : rightS (s.put k e) = true := by
  refine right_of (show s.t < 8 from right_t h) fun j hj => ?_
  show mayE ((s.ws.put k e).at j) = true
  rw [at_put hk hj]
  split
  · exact he
  · exact right_may h hj
theorem right_putS {s : St} (h : rightS s = true) {e : En} (he : mayE e = true) (v : Int) : rightS (putS e v s) = true := by
  refine right_of (show toN s.t (wayS e v s) < 8 from to_lt (right_t h) _) fun j hj => ?_
  rw [putS_at (right_t h) hj]
  split
  · exact he
  split
  · exact may_e0
  · exact right_may h hj
/-- what SetKeeps asks -/
structure Kept (e : En) (s x : St) (i : Nat) (v : Int) : Prop where
  lt : i < 4
  own : x.ws.at i = e
  other : ∀ w, w < 4 → w ≠ i → x.ws.at w = if sameE e (s.ws.at w) then e0 else s.ws.at w
  right : rightS x = true
  unl : unlS s.ws = true → unlS x.ws = true
  vic : 0 ≤ v → v ≤ 3 → (i : Int) = v
  empty : ¬ (0 ≤ v ∧ v ≤ 3) → ∀ w, w < 4 → (!(s.ws.at w).v || sameE e (s.ws.at w)) = true → (!(s.ws.at i).v || sameE e (s.ws.at i)) = true
  fb : fbW (hitE e.n (ofI e.vp) e.l) x.ws = true
  fi : fiW (hitE e.n (ofI e.vp) e.l) x.ws ≤ i
  vi : viN x.t / 2 ≠ i / 2
attribute [irreducible] sameE rightS fiW fbW hitE emptyE dropK cutW wayS putS unlS
end Go.Proofs.YtlhoedpencmikaaGreatDoor
