/- Registers (api.Satp): as values, as they come in, held against one another, stored and loaded whole. Written by mkstruct.py. -/
import Derived.Test.YtigbgmcdmoinmaaAgg
namespace Go.Proofs.Ytigbgmcdmoinmaa
open Go.ChangeShapes Go.WideShapes Go.ChangeAt Go.RowKit Go.Joins Go.Deep
set_option linter.unusedVariables false
set_option linter.unusedSimpArgs false

structure Sp where
  md : Nat
  ai : Nat
  pp : Nat
deriving DecidableEq
def Sp.ok (p : Sp) : Prop := p.md < 18446744073709551616 ∧ p.ai < 18446744073709551616 ∧ p.pp < 18446744073709551616
def spC (p : Sp) : Array Value := #[.int .u64 (p.md : Int), .int .u64 (p.ai : Int), .int .u64 (p.pp : Int)]
theorem spC_def (md : Nat) (ai : Nat) (pp : Nat) : spC ⟨md, ai, pp⟩ = #[.int .u64 (md : Int), .int .u64 (ai : Int), .int .u64 (pp : Int)] := rfl
theorem spC_eq (p : Sp) : spC p = #[.int .u64 (p.md : Int), .int .u64 (p.ai : Int), .int .u64 (p.pp : Int)] := rfl
theorem spC_size (p : Sp) : (spC p).size = 3 := rfl
theorem spC_one (p : Sp) : (spC p).all (·.oneCell') = true := by simp [spC, Value.oneCell']
theorem sp_info (p : Sp) : (Try.prog.info? 24).map (·.size) = some (spC p).size := by rw [spC_size]; kernel_rfl
theorem Blk.sp {w : World} {g : Nat} {t : TypeId} {p : Sp} (h : Blk w g t (spC p)) : w.cell? ⟨g, 0, none⟩ = some (.int .u64 (p.md : Int)) ∧ w.cell? ⟨g, 1, none⟩ = some (.int .u64 (p.ai : Int)) ∧ w.cell? ⟨g, 2, none⟩ = some (.int .u64 (p.pp : Int)) := ⟨h.cell 0, h.cell 1, h.cell 2⟩
attribute [irreducible] spC

theorem sp_array {α : Type} {cs : Array α} (h : cs.size = 3) : ∃ c0 c1 c2, cs = #[c0, c1, c2] := by
  obtain ⟨l⟩ := cs
  match l, h with
  | [c0, c1, c2], _ => exact ⟨c0, c1, c2, rfl⟩
theorem open_sp {H : Type} {enc : TypeId × Value → H} {W : World} {b0 : Nat} {v : Value} {d : DataW H} {p : List MemPlace} (hv : Value.okWide Try.prog W .any b0 24 v) (h : DataW.Trod enc Try.prog W 0 (fun _ => true) true 24 v d p) :
    ∃ P : Sp, v = .agg (spC P) ∧ P.ok := by
  obtain ⟨cs, rfl, hsz, n, hf⟩ := open_aggs Try.underlying24 (by kernel_rfl) (by kernel_rfl) hv h
  obtain ⟨c0, c1, c2, rfl⟩ := sp_array hsz
  obtain ⟨_, h0⟩ := hf 0 _ _ rfl rfl
  obtain ⟨_, h1⟩ := hf 1 _ _ rfl rfl
  obtain ⟨_, h2⟩ := hf 2 _ _ rfl rfl
  obtain ⟨z0, rfl, w0⟩ := open_u64f Try.underlying22 h0
  obtain ⟨z1, rfl, w1⟩ := open_u64f Try.underlying22 h1
  obtain ⟨z2, rfl, w2⟩ := open_u64f Try.underlying22 h2
  exact ⟨⟨z0, z1, z2⟩, by rw [spC_def], w0, w1, w2⟩

theorem eql_sp (w : World) (p q : Sp) : (binOp .eql 24 (.agg (spC p)) (.agg (spC q))).run Try.prog w = .ok (.bool (decide (p = q))) w := by
  have hp : Try.prog.stoodInHeld 24 = false := by kernel_rfl
  rw [run_eql_struct, show (10000 : Nat) = 9998 + 1 + 1 from rfl, run_equalIn_agg w _ _ _ _ (by simp [Program.fieldsOf, Try.underlying24]) hp, spC_eq p, spC_eq q]
  have hd : decide (p = q) = ((p.md : Int) == q.md && ((p.ai : Int) == q.ai && ((p.pp : Int) == q.pp && true))) := by
    obtain ⟨md, ai, pp⟩ := p
    obtain ⟨md', ai', pp'⟩ := q
    rw [Bool.eq_iff_iff]
    simp
    try omega
  rw [hd]
  have h_u64 : ∀ a b : Int, (Op.equalIn (9998 + 1) 22 (.int .u64 a) (.int .u64 b)).run Try.prog w = .ok (a == b) w := fun a b => run_equalIn_int w 9998 _ _ _ _ _ Try.underlying22
  generalize 9998 + 1 = D at h_u64 ⊢
  have key : (Op.eqFields D #[.int .u64 (p.md : Int), .int .u64 (p.ai : Int), .int .u64 (p.pp : Int)] #[.int .u64 (q.md : Int), .int .u64 (q.ai : Int), .int .u64 (q.pp : Int)] (Program.fieldsOf Try.prog 24).toList).run Try.prog w = .ok ((p.md : Int) == q.md && ((p.ai : Int) == q.ai && ((p.pp : Int) == q.pp && true))) w := by
    simp only [Program.fieldsOf, Try.underlying24]
    refine run_eqF ?_ (part_u64 (by simp)) (part_u64 (by simp)) (h_u64 _ _) ?_
    · simp
    refine run_eqF ?_ (part_u64 (by simp)) (part_u64 (by simp)) (h_u64 _ _) ?_
    · simp
    refine run_eqF ?_ (part_u64 (by simp)) (part_u64 (by simp)) (h_u64 _ _) ?_
    · simp
    simp [Op.eqFields, Sem.run_pure]
  first
    | (rw [key]; rfl)
    | (simp only [Program.fieldsOf, Try.underlying24] at key ⊢; rw [key]; rfl)
theorem neq_sp (w : World) (p q : Sp) : (binOp .neq 24 (.agg (spC p)) (.agg (spC q))).run Try.prog w = .ok (.bool (!decide (p = q))) w := neq_of_eql (eql_sp w p q)
theorem sp_guard : Try.prog.eqGuardType Try.prog.depth 24 = false := by kernel_rfl
end Go.Proofs.Ytigbgmcdmoinmaa
