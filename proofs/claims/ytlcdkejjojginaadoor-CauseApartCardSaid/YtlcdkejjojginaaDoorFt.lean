/- A fault (api.Fault): as values, as they come in, held against one another, stored and loaded whole. Written by mkstruct.py. -/
import Derived.Test.YtlcdkejjojginaaDoorAgg
namespace Go.Proofs.YtlcdkejjojginaaDoor
open Go.ChangeShapes Go.WideShapes Go.ChangeAt Go.RowKit Go.Joins Go.Deep
set_option linter.unusedVariables false
set_option linter.unusedSimpArgs false

structure Ft where
  b : Bool
  c : Int
  a : Nat
deriving DecidableEq
def Ft.ok (p : Ft) : Prop := (-9223372036854775808 ≤ p.c ∧ p.c ≤ 9223372036854775807) ∧ p.a < 18446744073709551616
def ftC (p : Ft) : Array Value := #[.bool p.b, .int .i64 p.c, .int .u64 (p.a : Int)]
theorem ftC_def (b : Bool) (c : Int) (a : Nat) : ftC ⟨b, c, a⟩ = #[.bool b, .int .i64 c, .int .u64 (a : Int)] := rfl
theorem ftC_eq (p : Ft) : ftC p = #[.bool p.b, .int .i64 p.c, .int .u64 (p.a : Int)] := rfl
theorem ftC_size (p : Ft) : (ftC p).size = 3 := rfl
theorem ftC_one (p : Ft) : (ftC p).all (·.oneCell') = true := by simp [ftC, Value.oneCell']
theorem ft_info (p : Ft) : (Tryd.prog.info? 25).map (·.size) = some (ftC p).size := by rw [ftC_size]; kernel_rfl
theorem Blk.ft {w : World} {g : Nat} {t : TypeId} {p : Ft} (h : Blk w g t (ftC p)) : w.cell? ⟨g, 0, none⟩ = some (.bool p.b) ∧ w.cell? ⟨g, 1, none⟩ = some (.int .i64 p.c) ∧ w.cell? ⟨g, 2, none⟩ = some (.int .u64 (p.a : Int)) := ⟨h.cell 0, h.cell 1, h.cell 2⟩
attribute [irreducible] ftC

theorem ft_array {α : Type} {cs : Array α} (h : cs.size = 3) : ∃ c0 c1 c2, cs = #[c0, c1, c2] := by
  obtain ⟨l⟩ := cs
  match l, h with
  | [c0, c1, c2], _ => exact ⟨c0, c1, c2, rfl⟩
theorem open_ft {H : Type} {enc : TypeId × Value → H} {W : World} {b0 : Nat} {v : Value} {d : DataW H} {p : List MemPlace} (hv : Value.okWide Tryd.prog W .any b0 25 v) (h : DataW.Trod enc Tryd.prog W 0 (fun _ => true) true 25 v d p) :
    ∃ P : Ft, v = .agg (ftC P) ∧ P.ok := by
  obtain ⟨cs, rfl, hsz, n, hf⟩ := open_aggs Tryd.underlying25 (by kernel_rfl) (by kernel_rfl) hv h
  obtain ⟨c0, c1, c2, rfl⟩ := ft_array hsz
  obtain ⟨_, h0⟩ := hf 0 _ _ rfl rfl
  obtain ⟨_, h1⟩ := hf 1 _ _ rfl rfl
  obtain ⟨_, h2⟩ := hf 2 _ _ rfl rfl
  obtain ⟨z0, rfl⟩ := open_boolf Tryd.underlying4 h0
  obtain ⟨z1, rfl, w1⟩ := open_intf Tryd.underlying3 h1
  obtain ⟨z2, rfl, w2⟩ := open_u64f Tryd.underlying22 h2
  exact ⟨⟨z0, z1, z2⟩, by rw [ftC_def], bounds_i64 w1, w2⟩

theorem eql_ft (w : World) (p q : Ft) : (binOp .eql 25 (.agg (ftC p)) (.agg (ftC q))).run Tryd.prog w = .ok (.bool (decide (p = q))) w := by
  have hp : Tryd.prog.stoodInHeld 25 = false := by kernel_rfl
  rw [run_eql_struct, show (10000 : Nat) = 9998 + 1 + 1 from rfl, run_equalIn_agg w _ _ _ _ (by simp [Program.fieldsOf, Tryd.underlying25]) hp, ftC_eq p, ftC_eq q]
  have hd : decide (p = q) = (p.b == q.b && (p.c == q.c && ((p.a : Int) == q.a && true))) := by
    obtain ⟨b, c, a⟩ := p
    obtain ⟨b', c', a'⟩ := q
    rw [Bool.eq_iff_iff]
    simp
    try omega
  rw [hd]
  have h_bool : ∀ a b : Bool, (Op.equalIn (9998 + 1) 4 (.bool a) (.bool b)).run Tryd.prog w = .ok (a == b) w := fun a b => run_equalIn_bool' w 9998 _ _ _ Tryd.underlying4
  have h_i64 : ∀ a b : Int, (Op.equalIn (9998 + 1) 3 (.int .i64 a) (.int .i64 b)).run Tryd.prog w = .ok (a == b) w := fun a b => run_equalIn_int w 9998 _ _ _ _ _ Tryd.underlying3
  have h_u64 : ∀ a b : Int, (Op.equalIn (9998 + 1) 22 (.int .u64 a) (.int .u64 b)).run Tryd.prog w = .ok (a == b) w := fun a b => run_equalIn_int w 9998 _ _ _ _ _ Tryd.underlying22
  generalize 9998 + 1 = D at h_bool h_i64 h_u64 ⊢
  have key : (Op.eqFields D #[.bool p.b, .int .i64 p.c, .int .u64 (p.a : Int)] #[.bool q.b, .int .i64 q.c, .int .u64 (q.a : Int)] (Program.fieldsOf Tryd.prog 25).toList).run Tryd.prog w = .ok (p.b == q.b && (p.c == q.c && ((p.a : Int) == q.a && true))) w := by
    simp only [Program.fieldsOf, Tryd.underlying25]
    refine run_eqF ?_ (part_bool (by simp)) (part_bool (by simp)) (h_bool _ _) ?_
    · simp
    refine run_eqF ?_ (part_int Tryd.underlying3 (by simp)) (part_int Tryd.underlying3 (by simp)) (h_i64 _ _) ?_
    · simp
    refine run_eqF ?_ (part_u64 (by simp)) (part_u64 (by simp)) (h_u64 _ _) ?_
    · simp
    simp [Op.eqFields, Sem.run_pure]
  first
    | (rw [key]; rfl)
    | (simp only [Program.fieldsOf, Tryd.underlying25] at key ⊢; rw [key]; rfl)
theorem neq_ft (w : World) (p q : Ft) : (binOp .neq 25 (.agg (ftC p)) (.agg (ftC q))).run Tryd.prog w = .ok (.bool (!decide (p = q))) w := neq_of_eql (eql_ft w p q)
theorem ft_guard : Tryd.prog.eqGuardType Tryd.prog.depth 25 = false := by kernel_rfl
end Go.Proofs.YtlcdkejjojginaaDoor
