/- A leaf (api.Leaf): as values, held against one another, stored and loaded whole and by parts. Written by mkstruct2.py. -/
import Derived.Test.YtdbflmceomnmlaaDoorMid
import Derived.Test.YtdbflmceomnmlaaDoorPt
namespace Go.Proofs.YtdbflmceomnmlaaDoor
open Go.ChangeShapes Go.WideShapes Go.ChangeAt Go.RowKit Go.Joins Go.Deep
set_option linter.unusedVariables false
set_option linter.unusedSimpArgs false
set_option maxRecDepth 10000

structure Lf where
  lv : Int
  at' : Nat
  pt : Pt
deriving DecidableEq
def Lf.ok (p : Lf) : Prop := (-9223372036854775808 ≤ p.lv ∧ p.lv ≤ 9223372036854775807) ∧ p.at' < 18446744073709551616 ∧ p.pt.ok
def lfC (p : Lf) : Array Value := #[.int .i64 p.lv, .int .u64 (p.at' : Int)] ++ ptC p.pt
theorem lfC_def (lv : Int) (at' : Nat) (pt : Pt) : lfC ⟨lv, at', pt⟩ = #[.int .i64 lv, .int .u64 (at' : Int)] ++ ptC pt := rfl
theorem lfC_eq (p : Lf) : lfC p = #[.int .i64 p.lv, .int .u64 (p.at' : Int)] ++ ptC p.pt := rfl
theorem lfC_size (p : Lf) : (lfC p).size = 13 := by simp only [lfC_eq, ptC_eq]; rfl
theorem lfC_one (p : Lf) : (lfC p).all (·.oneCell') = true := by simp only [lfC_eq, ptC_eq]; simp [Value.oneCell']
theorem lf_info (p : Lf) : (Tryd.prog.info? 71).map (·.size) = some (lfC p).size := by rw [lfC_size]; kernel_rfl
theorem lfC_lv (p : Lf) : (lfC p)[0]? = some (.int .i64 p.lv) := by simp only [lfC_eq, ptC_eq]; rfl
theorem lfC_set_lv (p : Lf) (x : Int) : (lfC p).setIfInBounds 0 (.int .i64 x) = lfC { p with lv := x } := by simp only [lfC_eq, ptC_eq]; rfl
theorem lfC_at' (p : Lf) : (lfC p)[1]? = some (.int .u64 (p.at' : Int)) := by simp only [lfC_eq, ptC_eq]; rfl
theorem lfC_set_at' (p : Lf) (x : Nat) : (lfC p).setIfInBounds 1 (.int .u64 (x : Int)) = lfC { p with at' := x } := by simp only [lfC_eq, ptC_eq]; rfl
theorem lfC_pt (p : Lf) : (lfC p).extract 2 (2 + (ptC p.pt).size) = ptC p.pt := by rw [ptC_size]; simp only [lfC_eq, ptC_eq]; kernel_rfl
theorem lfC_set_pt (p : Lf) (q : Pt) : putAt (lfC p) 2 (ptC q).toList = lfC { p with pt := q } := by simp only [lfC_eq, ptC_eq]; kernel_rfl
theorem Blk.lf_lv {w : World} {g : Nat} {t : TypeId} {p : Lf} (h : Blk w g t (lfC p)) : w.cell? ⟨g, 0, none⟩ = some (.int .i64 p.lv) := (h.cell 0).trans (lfC_lv p)
theorem Blk.lf_at' {w : World} {g : Nat} {t : TypeId} {p : Lf} (h : Blk w g t (lfC p)) : w.cell? ⟨g, 1, none⟩ = some (.int .u64 (p.at' : Int)) := (h.cell 1).trans (lfC_at' p)
theorem Blk.lf_pt {w : World} {g : Nat} {t : TypeId} {p : Lf} (h : Blk w g t (lfC p)) : w.rangeAt g 2 (ptC p.pt).toList := h.part 2 (lfC_pt p)
theorem lf_build (p : Lf) : Tryd.prog.built 71 [(0, .int .i64 p.lv), (1, .int .u64 (p.at' : Int)), (2, .agg (ptC p.pt))] = some (lfC p) := by simp only [lfC_eq, ptC_eq]; kernel_rfl
attribute [irreducible] lfC

theorem eqlIn_lf (D0 : Nat) (w : World) (p q : Lf) : (Op.equalIn (D0 + 1 + 1 + 1) 71 (.agg (lfC p)) (.agg (lfC q))).run Tryd.prog w = .ok (decide (p = q)) w := by
  have hp : Tryd.prog.stoodInHeld 71 = false := by kernel_rfl
  rw [run_equalIn_agg w _ _ _ _ (by simp [Program.fieldsOf, Tryd.underlying71]) hp]
  have hd : decide (p = q) = (p.lv == q.lv && ((p.at' : Int) == q.at' && (decide (p.pt = q.pt) && true))) := by
    obtain ⟨lv, at', pt⟩ := p
    obtain ⟨lv', at'', pt'⟩ := q
    rw [Bool.eq_iff_iff]
    simp
    try omega
  rw [hd]
  have h_i64 : ∀ a b : Int, (Op.equalIn (D0 + 1 + 1) 3 (.int .i64 a) (.int .i64 b)).run Tryd.prog w = .ok (a == b) w := fun a b => run_equalIn_int w (D0 + 1) _ _ _ _ _ Tryd.underlying3
  have h_u64 : ∀ a b : Int, (Op.equalIn (D0 + 1 + 1) 25 (.int .u64 a) (.int .u64 b)).run Tryd.prog w = .ok (a == b) w := fun a b => run_equalIn_int w (D0 + 1) _ _ _ _ _ Tryd.underlying25
  have h_pt : ∀ a b : Pt, (Op.equalIn (D0 + 1 + 1) 69 (.agg (ptC a)) (.agg (ptC b))).run Tryd.prog w = .ok (decide (a = b)) w := fun a b => eqlIn_pt (D0) w a b
  generalize D0 + 1 + 1 = D at h_i64 h_u64 h_pt ⊢
  have key : (Op.eqFields D (lfC p) (lfC q) (Program.fieldsOf Tryd.prog 71).toList).run Tryd.prog w = .ok (p.lv == q.lv && ((p.at' : Int) == q.at' && (decide (p.pt = q.pt) && true))) w := by
    simp only [Program.fieldsOf, Tryd.underlying71]
    refine run_eqF ?_ (part_int Tryd.underlying3 (lfC_lv p)) (part_int Tryd.underlying3 (lfC_lv q)) (h_i64 _ _) ?_
    · simp
    refine run_eqF ?_ (part_u64 (lfC_at' p)) (part_u64 (lfC_at' q)) (h_u64 _ _) ?_
    · simp
    refine run_eqF ?_ (part_agg Tryd.underlying69 rfl (by rw [ptC_size]; kernel_rfl) (lfC_pt p)) (part_agg Tryd.underlying69 rfl (by rw [ptC_size]; kernel_rfl) (lfC_pt q)) (h_pt _ _) ?_
    · simp
    simp [Op.eqFields, Sem.run_pure]
  first
    | exact key
    | (simp only [Program.fieldsOf, Tryd.underlying71] at key ⊢; exact key)
theorem eql_lf (w : World) (p q : Lf) : (binOp .eql 71 (.agg (lfC p)) (.agg (lfC q))).run Tryd.prog w = .ok (.bool (decide (p = q))) w := by
  rw [run_eql_struct, show (10000 : Nat) = 9997 + 1 + 1 + 1 from rfl, eqlIn_lf 9997]; rfl
theorem neq_lf (w : World) (p q : Lf) : (binOp .neq 71 (.agg (lfC p)) (.agg (lfC q))).run Tryd.prog w = .ok (.bool (!decide (p = q))) w := neq_of_eql (eql_lf w p q)
theorem lf_guard : Tryd.prog.eqGuardType Tryd.prog.depth 71 = false := by kernel_rfl
end Go.Proofs.YtdbflmceomnmlaaDoor
