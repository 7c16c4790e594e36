/- Numbers of address spaces (api.Asids): as values, as they come in, held against one another, stored and loaded whole. Written by mkstruct.py. -/
import Derived.Test.YtngioemeplllhaaDoorAgg
namespace Go.Proofs.YtngioemeplllhaaDoor
open Go.ChangeShapes Go.WideShapes Go.ChangeAt Go.RowKit Go.Joins Go.Deep
set_option linter.unusedVariables false
set_option linter.unusedSimpArgs false
set_option maxRecDepth 10000

structure As where
  ma : Int
  fr : Nat
  ow : Nat
deriving DecidableEq
def As.ok (p : As) : Prop := (-9223372036854775808 ≤ p.ma ∧ p.ma ≤ 9223372036854775807) ∧ p.fr < 18446744073709551616 ∧ p.ow < 18446744073709551616
def anC (p : As) : Array Value := #[.int .i64 p.ma, .int .u64 (p.fr : Int), .int .u64 (p.ow : Int)]
theorem anC_def (ma : Int) (fr : Nat) (ow : Nat) : anC ⟨ma, fr, ow⟩ = #[.int .i64 ma, .int .u64 (fr : Int), .int .u64 (ow : Int)] := rfl
theorem anC_eq (p : As) : anC p = #[.int .i64 p.ma, .int .u64 (p.fr : Int), .int .u64 (p.ow : Int)] := rfl
theorem anC_size (p : As) : (anC p).size = 3 := rfl
theorem anC_one (p : As) : (anC p).all (·.oneCell') = true := by simp [anC, Value.oneCell']
theorem an_info (p : As) : (Tryd.prog.info? 24).map (·.size) = some (anC p).size := by rw [anC_size]; kernel_rfl
theorem Blk.an {w : World} {g : Nat} {t : TypeId} {p : As} (h : Blk w g t (anC p)) : w.cell? ⟨g, 0, none⟩ = some (.int .i64 p.ma) ∧ w.cell? ⟨g, 1, none⟩ = some (.int .u64 (p.fr : Int)) ∧ w.cell? ⟨g, 2, none⟩ = some (.int .u64 (p.ow : Int)) := ⟨h.cell 0, h.cell 1, h.cell 2⟩
attribute [irreducible] anC

theorem an_array {α : Type} {cs : Array α} (h : cs.size = 3) : ∃ c0 c1 c2, cs = #[c0, c1, c2] := by
  obtain ⟨l⟩ := cs
  match l, h with
  | [c0, c1, c2], _ => exact ⟨c0, c1, c2, rfl⟩
theorem open_an {H : Type} {enc : TypeId × Value → H} {W : World} {b0 : Nat} {v : Value} {d : DataW H} {p : List MemPlace} (hv : Value.okWide Tryd.prog W .any b0 24 v) (h : DataW.Trod enc Tryd.prog W 0 (fun _ => true) true 24 v d p) :
    ∃ P : As, v = .agg (anC P) ∧ P.ok := by
  obtain ⟨cs, rfl, hsz, n, hf⟩ := open_aggs Tryd.underlying24 (by kernel_rfl) (by kernel_rfl) hv h
  obtain ⟨c0, c1, c2, rfl⟩ := an_array hsz
  obtain ⟨_, h0⟩ := hf 0 _ _ rfl rfl
  obtain ⟨_, h1⟩ := hf 1 _ _ rfl rfl
  obtain ⟨_, h2⟩ := hf 2 _ _ rfl rfl
  obtain ⟨z0, rfl, w0⟩ := open_intf Tryd.underlying3 h0
  obtain ⟨z1, rfl, w1⟩ := open_u64f Tryd.underlying22 h1
  obtain ⟨z2, rfl, w2⟩ := open_u64f Tryd.underlying22 h2
  exact ⟨⟨z0, z1, z2⟩, by rw [anC_def], bounds_i64 w0, w1, w2⟩

theorem eqlIn_an (D0 : Nat) (w : World) (p q : As) : (Op.equalIn (D0 + 1 + 1) 24 (.agg (anC p)) (.agg (anC q))).run Tryd.prog w = .ok (decide (p = q)) w := by
  have hp : Tryd.prog.stoodInHeld 24 = false := by kernel_rfl
  rw [run_equalIn_agg w _ _ _ _ (by simp [Program.fieldsOf, Tryd.underlying24]) hp, anC_eq p, anC_eq q]
  have hd : decide (p = q) = (p.ma == q.ma && ((p.fr : Int) == q.fr && ((p.ow : Int) == q.ow && true))) := by
    obtain ⟨ma, fr, ow⟩ := p
    obtain ⟨ma', fr', ow'⟩ := q
    rw [Bool.eq_iff_iff]
    simp
    try omega
  rw [hd]
  have h_i64 : ∀ a b : Int, (Op.equalIn (D0 + 1) 3 (.int .i64 a) (.int .i64 b)).run Tryd.prog w = .ok (a == b) w := fun a b => run_equalIn_int w D0 _ _ _ _ _ Tryd.underlying3
  have h_u64 : ∀ a b : Int, (Op.equalIn (D0 + 1) 22 (.int .u64 a) (.int .u64 b)).run Tryd.prog w = .ok (a == b) w := fun a b => run_equalIn_int w D0 _ _ _ _ _ Tryd.underlying22
  generalize D0 + 1 = D at h_i64 h_u64 ⊢
  have key : (Op.eqFields D #[.int .i64 p.ma, .int .u64 (p.fr : Int), .int .u64 (p.ow : Int)] #[.int .i64 q.ma, .int .u64 (q.fr : Int), .int .u64 (q.ow : Int)] (Program.fieldsOf Tryd.prog 24).toList).run Tryd.prog w = .ok (p.ma == q.ma && ((p.fr : Int) == q.fr && ((p.ow : Int) == q.ow && true))) w := by
    simp only [Program.fieldsOf, Tryd.underlying24]
    refine run_eqF ?_ (part_int Tryd.underlying3 (by simp)) (part_int Tryd.underlying3 (by simp)) (h_i64 _ _) ?_
    · simp
    refine run_eqF ?_ (part_u64 (by simp)) (part_u64 (by simp)) (h_u64 _ _) ?_
    · simp
    refine run_eqF ?_ (part_u64 (by simp)) (part_u64 (by simp)) (h_u64 _ _) ?_
    · simp
    simp [Op.eqFields, Sem.run_pure]
  first
    | exact key
    | (simp only [Program.fieldsOf, Tryd.underlying24] at key ⊢; exact key)
theorem eql_an (w : World) (p q : As) : (binOp .eql 24 (.agg (anC p)) (.agg (anC q))).run Tryd.prog w = .ok (.bool (decide (p = q))) w := by
  rw [run_eql_struct, show (10000 : Nat) = 9998 + 1 + 1 from rfl, eqlIn_an 9998]; rfl
theorem neq_an (w : World) (p q : As) : (binOp .neq 24 (.agg (anC p)) (.agg (anC q))).run Tryd.prog w = .ok (.bool (!decide (p = q))) w := neq_of_eql (eql_an w p q)
theorem an_guard : Tryd.prog.eqGuardType Tryd.prog.depth 24 = false := by kernel_rfl
end Go.Proofs.YtngioemeplllhaaDoor
