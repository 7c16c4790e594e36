/- Harts (api.Hart): their cells (a buffer's slice, Satp, and four more), as they come in, parts of them. -/
import Derived.Test.YtlhoedpencmikaaGreatDoorMharta
import Derived.Test.YtlhoedpencmikaaGreatDoorOpen14
import Derived.Test.YtlhoedpencmikaaGreatDoorGst
namespace Go.Proofs.YtlhoedpencmikaaGreatDoor
open Go.ChangeShapes Go.WideShapes Go.ChangeAt Go.RowKit Go.Joins Go.Deep
set_option linter.unusedVariables false
set_option linter.unusedSimpArgs false
set_option maxRecDepth 10000

/-- a hart, and where the slice of its buffer lies -/
structure Hx where
  A : Option Addr
  c : Nat
  h : Hr
def hrC (x : Hx) : Array Value := #[.slice x.A x.h.L.length x.c, .int .u64 (x.h.sp.md : Int), .int .u64 (x.h.sp.ai : Int), .int .u64 (x.h.sp.pp : Int), .int .i64 x.h.pr, .bool x.h.su, .bool x.h.mx, .int .i64 x.h.vi]
theorem tb_info (x : Value) : (Tryz.prog.info? 24).map (·.size) = some (#[x] : Array Value).size := by
  rw [show (#[x] : Array Value).size = 1 from rfl]; kernel_rfl
theorem tbx_one (A : Option Addr) (n c : Nat) : (#[Value.slice A n c] : Array Value).all (·.oneCell') = true := by simp [Value.oneCell']
theorem hrC_eq (A : Option Addr) (c : Nat) (h : Hr) : hrC ⟨A, c, h⟩ = #[.slice A h.L.length c, .int .u64 (h.sp.md : Int), .int .u64 (h.sp.ai : Int), .int .u64 (h.sp.pp : Int), .int .i64 h.pr, .bool h.su, .bool h.mx, .int .i64 h.vi] := rfl
theorem hrC_size (x : Hx) : (hrC x).size = 8 := rfl
theorem hrC_one (x : Hx) : (hrC x).all (·.oneCell') = true := by simp [hrC, Value.oneCell']
theorem hr_info (x : Hx) : (Tryz.prog.info? 29).map (·.size) = some (hrC x).size := by rw [hrC_size]; kernel_rfl
theorem hrC_tlb (A : Option Addr) (c : Nat) (h : Hr) : (hrC ⟨A, c, h⟩).extract 0 (0 + (#[Value.slice A h.L.length c] : Array Value).size) = #[.slice A h.L.length c] := rfl
theorem hrC_sp (A : Option Addr) (c : Nat) (h : Hr) : (hrC ⟨A, c, h⟩).extract 1 (1 + (spC h.sp).size) = spC h.sp := by rw [spC_size, spC_eq]; rfl
theorem hrC_put0 (A B : Option Addr) (c d : Nat) (h : Hr) {L : List St} {n : Nat} (hn : L.length = n) : putAt (hrC ⟨A, c, h⟩) 0 (#[Value.slice B n d] : Array Value).toList = hrC ⟨B, d, { h with L := L }⟩ := by subst hn; rfl
theorem hrC_set7 (A : Option Addr) (c : Nat) (h : Hr) (v : Int) : (hrC ⟨A, c, h⟩).setIfInBounds 7 (.int .i64 v) = hrC ⟨A, c, { h with vi := v }⟩ := rfl
structure HrCells (w : World) (g : Nat) (A : Option Addr) (c : Nat) (h : Hr) : Prop where
  s : w.cell? ⟨g, 0, none⟩ = some (.slice A h.L.length c)
  md : w.cell? ⟨g, 1, none⟩ = some (.int .u64 (h.sp.md : Int))
  ai : w.cell? ⟨g, 2, none⟩ = some (.int .u64 (h.sp.ai : Int))
  pp : w.cell? ⟨g, 3, none⟩ = some (.int .u64 (h.sp.pp : Int))
  pr : w.cell? ⟨g, 4, none⟩ = some (.int .i64 h.pr)
  su : w.cell? ⟨g, 5, none⟩ = some (.bool h.su)
  mx : w.cell? ⟨g, 6, none⟩ = some (.bool h.mx)
  vi : w.cell? ⟨g, 7, none⟩ = some (.int .i64 h.vi)
theorem Blk.hr {w : World} {g : Nat} {t : TypeId} {A : Option Addr} {c : Nat} {p : Hr} (h : Blk w g t (hrC ⟨A, c, p⟩)) : HrCells w g A c p :=
  ⟨h.cell 0, h.cell 1, h.cell 2, h.cell 3, h.cell 4, h.cell 5, h.cell 6, h.cell 7⟩
attribute [irreducible] hrC
/-- what holds of a hart that came in -/
def Hr.ok (h : Hr) : Prop := h.sp.ok ∧ (-9223372036854775808 ≤ h.pr ∧ h.pr ≤ 9223372036854775807) ∧ (-9223372036854775808 ≤ h.vi ∧ h.vi ≤ 9223372036854775807) ∧ ∀ i, i < h.L.length → (sT h.L i).ok
section
variable {H : Type} {enc : TypeId × Value → H}
theorem open_hr {W : World} {b0 : Nat} {v : Value} {d : DataW H} {p : List MemPlace} (hv : Value.okWide Tryz.prog W .any b0 29 v) (h : DataW.Trod enc Tryz.prog W 0 (fun _ => true) true 29 v d p) :
    ∃ (A : Option Addr) (P : Hr) (c : Nat), v = .agg (hrC ⟨A, c, P⟩) ∧ P.ok ∧ RowV KS W A P.L c := by
  obtain ⟨cs, rfl, hsz⟩ := okWide_struct Tryz.underlying29 hv
  obtain ⟨fuel, hf⟩ := h
  have h8 : Tryz.prog.cellsOf 29 = 8 := by kernel_rfl
  rw [h8] at hsz
  obtain ⟨l⟩ := cs
  match l, hsz with
  | [c0, c1, c2, c3, c4, c5, c6, c7], _ =>
  obtain ⟨xs, n, _, _, _, hlen, hg⟩ := DataW.trod_struct Tryz.underlying29 hf
  have hl6 : xs.length = 6 := hlen
  have g0 := hg 0 _ rfl
  have g1 := hg 1 _ rfl
  have g2 := hg 2 _ rfl
  have g3 := hg 3 _ rfl
  have g4 := hg 4 _ rfl
  have g5 := hg 5 _ rfl
  have k1 : Tryz.prog.cellsOf 24 = 1 := by kernel_rfl
  have k3 : Tryz.prog.cellsOf 27 = 3 := by kernel_rfl
  have ki : Tryz.prog.cellsOf 3 = 1 := by kernel_rfl
  have kb : Tryz.prog.cellsOf 4 = 1 := by kernel_rfl
  simp only [Value.cells] at g0 g1 g2 g3 g4 g5
  obtain ⟨m, hgt⟩ : ∃ m, DataW.trod enc Tryz.prog W 0 (fun _ => true) true n 24 [c0] = some m := ⟨_, g0.trans (List.getElem?_eq_getElem (by omega))⟩
  obtain ⟨ys, n2, _, _, _, hlen2, hg2⟩ := DataW.trod_struct Tryz.underlying24 hgt
  have hl1 : ys.length = 1 := hlen2
  have s0' : DataW.trod enc Tryz.prog W 0 (fun _ => true) true n2 22 (List.take (Tryz.prog.cellsOf 22) (List.drop 0 [c0])) = ys[0]? := hg2 0 _ rfl
  have ks : Tryz.prog.cellsOf 22 = 1 := by kernel_rfl
  rw [ks] at s0'
  simp only [List.drop_zero, List.take_succ_cons, List.take_zero] at s0'
  obtain ⟨A, L, c, hc0, hok, hr⟩ := open_rowv ks_ok St.ok (by show Tryz.prog.cellsOf 69 = 45; kernel_rfl) (fun n cs y hy => st_leaves hy) (s0'.trans (List.getElem?_eq_getElem (by omega)))
  subst hc0
  have hsp := leaves_of_trod 3 27 _ _ _ [25, 25, 25] (by kernel_rfl) (g1.trans (List.getElem?_eq_getElem (by omega)))
  obtain ⟨⟨_, _, p1⟩, ⟨_, _, p2⟩, ⟨_, _, p3⟩, _⟩ := hsp
  obtain ⟨z1, rfl, w1⟩ := open_u64f Tryz.underlying25 p1
  obtain ⟨z2, rfl, w2⟩ := open_u64f Tryz.underlying25 p2
  obtain ⟨z3, rfl, w3⟩ := open_u64f Tryz.underlying25 p3
  obtain ⟨z4, rfl, w4⟩ := open_intf Tryz.underlying3 (g2.trans (List.getElem?_eq_getElem (by omega)))
  obtain ⟨z5, rfl⟩ := open_boolf Tryz.underlying4 (g3.trans (List.getElem?_eq_getElem (by omega)))
  obtain ⟨z6, rfl⟩ := open_boolf Tryz.underlying4 (g4.trans (List.getElem?_eq_getElem (by omega)))
  obtain ⟨z7, rfl, w7⟩ := open_intf Tryz.underlying3 (g5.trans (List.getElem?_eq_getElem (by omega)))
  exact ⟨A, ⟨L, ⟨z1, z2, z3⟩, z4, z5, z6, z7⟩, c, by rw [hrC_eq], ⟨⟨w1, w2, w3⟩, bounds_i64 w4, bounds_i64 w7, fun i hi => by rw [sT_eq]; exact hok i hi⟩, hr⟩
end
end Go.Proofs.YtlhoedpencmikaaGreatDoor
