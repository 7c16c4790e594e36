/- An access result (api.Result): as values, held against one another, stored and loaded whole and by parts. Written by mkstruct2.py. -/
import Derived.Test.YtlhoedpencmikaaGreatDoorGagg
import Derived.Test.YtlhoedpencmikaaGreatDoorGst
import Derived.Test.YtlhoedpencmikaaGreatDoorMharta
import Derived.Test.YtlhoedpencmikaaGreatDoorHr
import Derived.Test.YtlhoedpencmikaaGreatDoorMem
import Derived.Test.YtlhoedpencmikaaGreatDoorLaw14x
namespace Go.Proofs.YtlhoedpencmikaaGreatDoor
open Go.ChangeShapes Go.WideShapes Go.ChangeAt Go.RowKit Go.Joins Go.Deep
set_option linter.unusedVariables false
set_option linter.unusedSimpArgs false
set_option maxRecDepth 10000

def Rs.ok (p : Rs) : Prop := p.v < 18446744073709551616 ∧ p.f.ok
def rsC (p : Rs) : Array Value := #[.int .u64 (p.v : Int)] ++ ftC p.f
theorem rsC_def (v : Nat) (f : Ft) : rsC ⟨v, f⟩ = #[.int .u64 (v : Int)] ++ ftC f := rfl
theorem rsC_eq (p : Rs) : rsC p = #[.int .u64 (p.v : Int)] ++ ftC p.f := rfl
theorem rsC_size (p : Rs) : (rsC p).size = 4 := by simp only [rsC_eq, ftC_eq]; rfl
theorem rsC_one (p : Rs) : (rsC p).all (·.oneCell') = true := by simp only [rsC_eq, ftC_eq]; simp [Value.oneCell']
theorem rs_info (p : Rs) : (Tryz.prog.info? 56).map (·.size) = some (rsC p).size := by rw [rsC_size]; kernel_rfl
theorem rsC_v (p : Rs) : (rsC p)[0]? = some (.int .u64 (p.v : Int)) := by simp only [rsC_eq, ftC_eq]; rfl
theorem rsC_set_v (p : Rs) (x : Nat) : (rsC p).setIfInBounds 0 (.int .u64 (x : Int)) = rsC { p with v := x } := by simp only [rsC_eq, ftC_eq]; rfl
theorem rsC_f (p : Rs) : (rsC p).extract 1 (1 + (ftC p.f).size) = ftC p.f := by rw [ftC_size]; simp only [rsC_eq, ftC_eq]; kernel_rfl
theorem rsC_set_f (p : Rs) (q : Ft) : putAt (rsC p) 1 (ftC q).toList = rsC { p with f := q } := by simp only [rsC_eq, ftC_eq]; kernel_rfl
theorem Blk.rs_v {w : World} {g : Nat} {t : TypeId} {p : Rs} (h : Blk w g t (rsC p)) : w.cell? ⟨g, 0, none⟩ = some (.int .u64 (p.v : Int)) := (h.cell 0).trans (rsC_v p)
attribute [irreducible] rsC

theorem eqlIn_ft (D0 : Nat) (w : World) (p q : Ft) : (Op.equalIn (D0 + 1 + 1) 54 (.agg (ftC p)) (.agg (ftC q))).run Tryz.prog w = .ok (decide (p = q)) w := by
  have hp : Tryz.prog.stoodInHeld 54 = false := by kernel_rfl
  rw [run_equalIn_agg w _ _ _ _ (by simp [Program.fieldsOf, Tryz.underlying54]) hp, ftC_eq p, ftC_eq q]
  have hd : decide (p = q) = (p.b == q.b && (p.c == q.c && ((p.a : Int) == q.a && true))) := by
    obtain ⟨b, c, a⟩ := p
    obtain ⟨b', c', a'⟩ := q
    rw [Bool.eq_iff_iff]
    simp
    omega
  rw [hd]
  have h_bool : ∀ a b : Bool, (Op.equalIn (D0 + 1) 4 (.bool a) (.bool b)).run Tryz.prog w = .ok (a == b) w := fun a b => run_equalIn_bool' w D0 _ _ _ Tryz.underlying4
  have h_i64 : ∀ a b : Int, (Op.equalIn (D0 + 1) 3 (.int .i64 a) (.int .i64 b)).run Tryz.prog w = .ok (a == b) w := fun a b => run_equalIn_int w D0 _ _ _ _ _ Tryz.underlying3
  have h_u64 : ∀ a b : Int, (Op.equalIn (D0 + 1) 25 (.int .u64 a) (.int .u64 b)).run Tryz.prog w = .ok (a == b) w := fun a b => run_equalIn_int w D0 _ _ _ _ _ Tryz.underlying25
  generalize D0 + 1 = D at h_bool h_i64 h_u64 ⊢
  have key : (Op.eqFields D #[.bool p.b, .int .i64 p.c, .int .u64 (p.a : Int)] #[.bool q.b, .int .i64 q.c, .int .u64 (q.a : Int)] (Program.fieldsOf Tryz.prog 54).toList).run Tryz.prog w = .ok (p.b == q.b && (p.c == q.c && ((p.a : Int) == q.a && true))) w := by
    simp only [Program.fieldsOf, Tryz.underlying54]
    refine run_eqF ?_ (part_bool (by simp)) (part_bool (by simp)) (h_bool _ _) ?_
    · simp
    refine run_eqF ?_ (part_int Tryz.underlying3 (by simp)) (part_int Tryz.underlying3 (by simp)) (h_i64 _ _) ?_
    · simp
    refine run_eqF ?_ (part_u64 (by simp)) (part_u64 (by simp)) (h_u64 _ _) ?_
    · simp
    simp [Op.eqFields, Sem.run_pure]
  first
    | exact key
    | (simp only [Program.fieldsOf, Tryz.underlying54] at key ⊢; exact key)
theorem eqlIn_rs (D0 : Nat) (w : World) (p q : Rs) : (Op.equalIn (D0 + 1 + 1 + 1) 56 (.agg (rsC p)) (.agg (rsC q))).run Tryz.prog w = .ok (decide (p = q)) w := by
  have hp : Tryz.prog.stoodInHeld 56 = false := by kernel_rfl
  rw [run_equalIn_agg w _ _ _ _ (by simp [Program.fieldsOf, Tryz.underlying56]) hp]
  have hd : decide (p = q) = ((p.v : Int) == q.v && (decide (p.f = q.f) && true)) := by
    obtain ⟨v, f⟩ := p
    obtain ⟨v', f'⟩ := q
    rw [Bool.eq_iff_iff]
    simp
    (omega)
  rw [hd]
  have h_u64 : ∀ a b : Int, (Op.equalIn (D0 + 1 + 1) 25 (.int .u64 a) (.int .u64 b)).run Tryz.prog w = .ok (a == b) w := fun a b => run_equalIn_int w (D0 + 1) _ _ _ _ _ Tryz.underlying25
  have h_ft : ∀ a b : Ft, (Op.equalIn (D0 + 1 + 1) 54 (.agg (ftC a)) (.agg (ftC b))).run Tryz.prog w = .ok (decide (a = b)) w := fun a b => eqlIn_ft (D0) w a b
  generalize D0 + 1 + 1 = D at h_u64 h_ft ⊢
  have key : (Op.eqFields D (rsC p) (rsC q) (Program.fieldsOf Tryz.prog 56).toList).run Tryz.prog w = .ok ((p.v : Int) == q.v && (decide (p.f = q.f) && true)) w := by
    simp only [Program.fieldsOf, Tryz.underlying56]
    refine run_eqF ?_ (part_u64 (rsC_v p)) (part_u64 (rsC_v q)) (h_u64 _ _) ?_
    · simp
    refine run_eqF ?_ (part_agg Tryz.underlying54 rfl (by rw [ftC_size]; kernel_rfl) (rsC_f p)) (part_agg Tryz.underlying54 rfl (by rw [ftC_size]; kernel_rfl) (rsC_f q)) (h_ft _ _) ?_
    · simp
    simp [Op.eqFields, Sem.run_pure]
  first
    | exact key
    | (simp only [Program.fieldsOf, Tryz.underlying56] at key ⊢; exact key)
theorem eql_rs (w : World) (p q : Rs) : (binOp .eql 56 (.agg (rsC p)) (.agg (rsC q))).run Tryz.prog w = .ok (.bool (decide (p = q))) w := by
  rw [run_eql_struct, show (10000 : Nat) = 9997 + 1 + 1 + 1 from rfl, eqlIn_rs 9997]; rfl
theorem rs_guard : Tryz.prog.eqGuardType Tryz.prog.depth 56 = false := by kernel_rfl
end Go.Proofs.YtlhoedpencmikaaGreatDoor
/- An access on its way (hart.access): its cells, parts of them; what is left of a world in which one block alone was stored into. -/
namespace Go.Proofs.YtlhoedpencmikaaGreatDoor
open Go.ChangeShapes Go.WideShapes Go.ChangeAt Go.RowKit Go.Joins Go.Deep
set_option linter.unusedVariables false
set_option linter.unusedSimpArgs false
set_option maxRecDepth 10000

structure Ax where
  A : Option Addr
  c : Nat
  h : Hr
  S : Nat
  B : Option Addr
  M : List (Nat × Nat)
  d : Nat
  k : Nat
  a : Nat
  s : Nat
  v : Nat
def axC (x : Ax) : Array Value := #[.slice x.A x.h.L.length x.c, .int .u64 (x.h.sp.md : Int), .int .u64 (x.h.sp.ai : Int), .int .u64 (x.h.sp.pp : Int), .int .i64 x.h.pr, .bool x.h.su, .bool x.h.mx, .int .i64 x.h.vi, .int .u64 (x.S : Int), .slice x.B x.M.length x.d, .int .i64 (x.k : Int), .int .u64 (x.a : Int), .int .i64 (x.s : Int), .int .u64 (x.v : Int)]
theorem axC_size (x : Ax) : (axC x).size = 14 := rfl
theorem axC_one (x : Ax) : (axC x).all (·.oneCell') = true := by simp [axC, Value.oneCell']
theorem ax_info (x : Ax) : (Tryz.prog.info? 100).map (·.size) = some (axC x).size := by rw [axC_size]; kernel_rfl
theorem axC_hr (x : Ax) : (axC x).extract 0 (0 + (hrC ⟨x.A, x.c, x.h⟩).size) = hrC ⟨x.A, x.c, x.h⟩ := by rw [hrC_size, hrC_eq]; rfl
theorem axC_sp (x : Ax) : (axC x).extract 1 (1 + (spC x.h.sp).size) = spC x.h.sp := by rw [spC_size, spC_eq]; rfl
theorem axC_mem (x : Ax) : (axC x).extract 8 (8 + (#[.int .u64 (x.S : Int), .slice x.B x.M.length x.d] : Array Value).size) = #[.int .u64 (x.S : Int), .slice x.B x.M.length x.d] := rfl
theorem axC_tlb (x : Ax) : (axC x).extract 0 (0 + (#[.slice x.A x.h.L.length x.c] : Array Value).size) = #[.slice x.A x.h.L.length x.c] := rfl
theorem axC_put0 (x : Ax) {A : Option Addr} {c n : Nat} {L : List St} (hn : L.length = n) : putAt (axC x) 0 (#[.slice A n c] : Array Value).toList = axC { x with A := A, c := c, h := { x.h with L := L } } := by subst hn; rfl
theorem axC_set7 (x : Ax) (v : Int) : (axC x).setIfInBounds 7 (.int .i64 v) = axC { x with h := { x.h with vi := v } } := rfl
theorem axC_put8 (x : Ax) {S : Nat} {B : Option Addr} {d n : Nat} {M : List (Nat × Nat)} (hn : M.length = n) : putAt (axC x) 8 (#[.int .u64 (S : Int), .slice B n d] : Array Value).toList = axC { x with S := S, B := B, M := M, d := d } := by subst hn; rfl
theorem ax_build (A : Option Addr) (c : Nat) (h : Hr) (S : Nat) (B : Option Addr) (M : List (Nat × Nat)) (d k a s v : Nat) : Tryz.prog.built 100 [(0, .agg (hrC ⟨A, c, h⟩)), (1, .agg #[.int .u64 (S : Int), .slice B M.length d]), (2, .int .i64 (k : Int)), (3, .int .u64 (a : Int)), (4, .int .i64 (s : Int)), (5, .int .u64 (v : Int))] = some (axC ⟨A, c, h, S, B, M, d, k, a, s, v⟩) := by rw [hrC_eq]; kernel_rfl
theorem me_one (S : Nat) (B : Option Addr) (n d : Nat) : (#[.int .u64 (S : Int), .slice B n d] : Array Value).all (·.oneCell') = true := by simp [Value.oneCell']
theorem me_info (S : Nat) (B : Option Addr) (n d : Nat) : (Tryz.prog.info? 32).map (·.size) = some (#[.int .u64 (S : Int), .slice B n d] : Array Value).size := by rw [show (#[.int .u64 (S : Int), .slice B n d] : Array Value).size = 2 from rfl]; kernel_rfl
structure AxCells (w : World) (g : Nat) (x : Ax) : Prop where
  s : w.cell? ⟨g, 0, none⟩ = some (.slice x.A x.h.L.length x.c)
  md : w.cell? ⟨g, 1, none⟩ = some (.int .u64 (x.h.sp.md : Int))
  ai : w.cell? ⟨g, 2, none⟩ = some (.int .u64 (x.h.sp.ai : Int))
  pp : w.cell? ⟨g, 3, none⟩ = some (.int .u64 (x.h.sp.pp : Int))
  pr : w.cell? ⟨g, 4, none⟩ = some (.int .i64 x.h.pr)
  su : w.cell? ⟨g, 5, none⟩ = some (.bool x.h.su)
  mx : w.cell? ⟨g, 6, none⟩ = some (.bool x.h.mx)
  vi : w.cell? ⟨g, 7, none⟩ = some (.int .i64 x.h.vi)
  S : w.cell? ⟨g, 8, none⟩ = some (.int .u64 (x.S : Int))
  B : w.cell? ⟨g, 9, none⟩ = some (.slice x.B x.M.length x.d)
  k : w.cell? ⟨g, 10, none⟩ = some (.int .i64 (x.k : Int))
  a : w.cell? ⟨g, 11, none⟩ = some (.int .u64 (x.a : Int))
  z : w.cell? ⟨g, 12, none⟩ = some (.int .i64 (x.s : Int))
  v : w.cell? ⟨g, 13, none⟩ = some (.int .u64 (x.v : Int))
theorem Blk.ax {w : World} {g : Nat} {t : TypeId} {x : Ax} (h : Blk w g t (axC x)) : AxCells w g x :=
  ⟨h.cell 0, h.cell 1, h.cell 2, h.cell 3, h.cell 4, h.cell 5, h.cell 6, h.cell 7, h.cell 8, h.cell 9, h.cell 10, h.cell 11, h.cell 12, h.cell 13⟩
attribute [irreducible] axC

/-! one block alone stored into -/
structure Only (g : Nat) (w w' : World) : Prop where
  b : Below g w w'
  o : ∀ k, k < w.heap.size → k ≠ g → w'.heap[k]? = w.heap[k]?
theorem Only.refl (g : Nat) (w : World) : Only g w w := ⟨Below.refl _ _, fun _ _ _ => rfl⟩
theorem Only.trans {g : Nat} {x y z : World} (h : Only g x y) (k : Only g y z) : Only g x z := ⟨h.b.trans k.b, fun j hj hn => (k.o j (Nat.lt_of_lt_of_le hj h.b.size) hn).trans (h.o j hj hn)⟩
theorem Only.ext {g : Nat} {x y : World} (hg : g ≤ x.heap.size) (h : Ext x y) : Only g x y := ⟨Below.mono h hg, fun j hj _ => h.block j hj⟩
theorem Only.row (w : World) (g : Nat) (cs : Array Value) : Only g w (w.setRow g cs) := ⟨below_row (Below.refl _ _) (Nat.le_refl _) cs, fun k _ hn => setRow_other w g k cs hn⟩
theorem Only.blk {g k : Nat} {w w' : World} {t : TypeId} {cs : Array Value} (h : Only g w w') (hb : Blk w k t cs) (hn : k ≠ g) : Blk w' k t cs := (h.o k hb.lt hn).trans hb
theorem Only.outer {g : Nat} {w0 w w' : World} (hE : Ext w0 w) (hg : w0.heap.size ≤ g) (h : Only g w w') : Ext w0 w' := Below.trans hE (Below.mono h.b hg)
theorem Only.gap {g : Nat} {w w' : World} (h : Only g w w') : Gap g (g + 1) w w' := ⟨h.b.size, fun j hj hn => h.o j hj (by omega)⟩
theorem row_far {w : World} {A : Option Addr} {L : List St} {c g : Nat} {t : TypeId} {cs : Array Value} (hr : RowV KS w A L c) (hp : 0 < L.length) (hb : Blk w g t cs) (hs : cs.size < 45) : ∀ a, A = Option.some a → a.block ≠ g := by
  intro a ha e
  obtain ⟨b, off, rfl, -, hx⟩ := hr.some hp
  injection ha with ha
  subst ha
  have e' : b = g := e
  subst e'
  have h1 : w.rangeAt b (off + 0 * 45) (stC (L.getD 0 s0)).toList := hx 0 hp
  have hz : (stC (L.getD 0 s0)).size = 45 := stC_size _
  generalize stC (L.getD 0 s0) = q at h1 hz
  have h2 := h1 44 (q[44]'(by omega)) (by simp [hz])
  rw [hb.cell] at h2
  have h3 := (Array.getElem?_eq_some_iff.1 h2).1
  omega
theorem rowv_zero {w w' : World} {A : Option Addr} {L : List St} {c : Nat} (h : RowV KS w A L c) (hp : ¬ 0 < L.length) : RowV KS w' A L c := ⟨fun h => absurd h hp, h.2⟩
theorem RowV.set {w : World} {A : Option Addr} {L : List St} {c g : Nat} {t : TypeId} {cs : Array Value} (hr : RowV KS w A L c) (hb : Blk w g t cs) (hs : cs.size < 45) (ds : Array Value) : RowV KS (w.setRow g ds) A L c := by
  by_cases hp : 0 < L.length
  · exact hr.row (row_far hr hp hb hs) ds
  · exact rowv_zero hr hp
/-- all blocks but g are as they were, and so are g's cells but those from lo on, below hi -/
structure Save (g lo hi : Nat) (x y : World) : Prop where
  s : x.heap.size ≤ y.heap.size
  o : ∀ b, b < x.heap.size → b ≠ g → y.heap[b]? = x.heap[b]?
  c : ∀ i, i < lo ∨ hi ≤ i → y.cell? ⟨g, i, none⟩ = x.cell? ⟨g, i, none⟩ ∨ x.heap.size ≤ g
theorem Save.refl (g lo hi : Nat) (x : World) : Save g lo hi x x := ⟨Nat.le_refl _, fun _ _ _ => rfl, fun _ _ => .inl rfl⟩
theorem Save.trans {g lo hi : Nat} {x y z : World} (h : Save g lo hi x y) (k : Save g lo hi y z) : Save g lo hi x z :=
  ⟨Nat.le_trans h.s k.s, fun b hb hn => (k.o b (Nat.lt_of_lt_of_le hb h.s) hn).trans (h.o b hb hn), fun i hi => by
    rcases h.c i hi with h1 | h1
    · rcases k.c i hi with h2 | h2
      · exact .inl (h2.trans h1)
      · exact .inr (Nat.le_trans h.s h2)
    · exact .inr h1⟩
theorem Save.ext {g lo hi : Nat} {x y : World} (h : Ext x y) : Save g lo hi x y := ⟨h.size, fun b hb _ => h.block b hb, fun i _ => by
  rcases Nat.lt_or_ge g x.heap.size with hg | hg
  · exact .inl (h.cell (p := ⟨g, i, none⟩) hg)
  · exact .inr hg⟩
theorem Save.row {g lo hi : Nat} {x : World} {t : TypeId} {old cs : Array Value} (hb : Blk x g t old) (hc : ∀ i, i < lo ∨ hi ≤ i → cs[i]? = old[i]?) : Save g lo hi x (x.setRow g cs) :=
  ⟨by rw [size_setRow]; exact Nat.le_refl _, fun b _ hn => setRow_other x g b cs hn, fun i hi => .inl (by rw [(hb.row cs).cell, hb.cell, hc i hi])⟩
theorem Save.blk {g lo hi k : Nat} {w w' : World} {t : TypeId} {cs : Array Value} (h : Save g lo hi w w') (hb : Blk w k t cs) (hn : k ≠ g) : Blk w' k t cs := (h.o k hb.lt hn).trans hb
theorem Save.cell {g lo hi i : Nat} {w w' : World} {t : TypeId} {cs : Array Value} {v : Value} (h : Save g lo hi w w') (hb : Blk w g t cs) (hi : i < lo ∨ hi ≤ i) (hv : w.cell? ⟨g, i, none⟩ = some v) : w'.cell? ⟨g, i, none⟩ = some v := by
  rcases h.c i hi with h1 | h1
  · exact h1.trans hv
  · have := hb.lt; omega
theorem putAt_out (i : Nat) : ∀ (vs : List Value) (cs : Array Value) (k : Nat), i < k ∨ k + vs.length ≤ i → (putAt cs k vs)[i]? = cs[i]?
  | [], _, _, _ => rfl
  | v :: vs, cs, k, h => by
    simp only [List.length_cons] at h
    show (putAt (cs.setIfInBounds k v) (k + 1) vs)[i]? = cs[i]?
    rw [putAt_out i vs _ _ (by omega), Array.getElem?_setIfInBounds_ne (by omega)]
theorem Only.own {g k : Nat} {w w' : World} (h : Only g w w') (hg : g < w.heap.size) (hk : w.heap.size ≤ k) (cs : Array Value) : Only g w (w'.setRow k cs) :=
  ⟨below_row h.b (by omega) cs, fun j hj hn => (setRow_other w' k j cs (by omega)).trans (h.o j hj hn)⟩
theorem Only.up {g : Nat} {w w1 w2 : World} (h : Only g w w1) (hg : g < w.heap.size) (hE : Ext w1 w2) : Only g w w2 := h.trans (Only.ext (Nat.le_trans (Nat.le_of_lt hg) h.b.size) hE)
theorem Mem.set {w : World} {S : Nat} {B : Option Addr} {M : List (Nat × Nat)} {d g : Nat} (h : Mem w S B M d) (ho : Out g (g + 1) B M.length) (ds : Array Value) : Mem (w.setRow g ds) S B M d := h.row' ho (Nat.le_refl _) (Nat.lt_succ_self _) ds
theorem Out.one {lo hi g : Nat} {A : Option Addr} {n : Nat} (h : Out lo hi A n) (h1 : lo ≤ g) (h2 : g < hi) : Out g (g + 1) A n := fun a hl ha => by
  rcases h a hl ha with h | h <;> omega

theorem Mem.only {w w' : World} {S : Nat} {B : Option Addr} {M : List (Nat × Nat)} {d g : Nat} (h : Mem w S B M d) (ho : Out g (g + 1) B M.length) (hE : Only g w w') : Mem w' S B M d :=
  ⟨⟨fun hl => by
    obtain ⟨b, off, rfl, hlt, hc⟩ := h.row.1 hl
    have hb := ho _ hl rfl
    simp only at hb
    exact ⟨b, off, rfl, Nat.lt_of_lt_of_le hlt hE.b.size, fun i hi => ⟨gap_cell hE.gap (hc i hi).1 (by omega), gap_cell hE.gap (hc i hi).2 (by omega)⟩⟩, h.row.2⟩, h.rl, h.ok, h.few⟩
theorem RowV.only {w w' : World} {A : Option Addr} {L : List St} {c g : Nat} {t : TypeId} {cs : Array Value} (hr : RowV KS w A L c) (hb : Blk w g t cs) (hs : cs.size < 45) (hE : Only g w w') : RowV KS w' A L c := by
  by_cases hp : 0 < L.length
  · exact hr.gap hE.gap fun a ha => by have := row_far hr hp hb hs a ha; omega
  · exact rowv_zero hr hp
section
variable {P : Program} {ops : Array Oper} {R : World → World → Prop} {Q : Exit → Act → World → Prop} {N : Act → World → Prop} {o : Oper} {r : List (Oper × Bool)} {a : Act} {w : World}
/-- a part of a known block, or one cell of it, loaded where the load comes up alone -/
theorem seq_part_now {ty t : TypeId} {x : Operand} {g k : Nat} {cs ds : Array Value} {d : TypeDesc}
    (hop : o.op = .load ty x) (hx : a.eval x = .pointer (some ⟨g, k, none⟩)) (hb : Blk w g t cs) (he : cs.extract k (k + ds.size) = ds)
    (hd : d.isRow = true) (hu : P.underlying ty = some d) (hi : (P.info? ty).map (·.size) = some ds.size) (hw : Region.wanted o (yielded ops a.tmps) = true) (hR : R w w)
    (k : ∀ K : Act → World → Prop, (∀ a' w', wpSeq P ops R Q N r a' w' → K a' w') → K (a.put o.dst (.agg ds)) w) : wpSeq P ops R Q N ((o, true) :: r) a w :=
  seq_run (.agg ds) w hw (by
    unfold execOp
    simp only [hop, hx, Sem.run_bind, run_load_part ty hb he hu hd hi, Result.andThen_ok, Sem.run_pure]) hR k
/-- a part of a known block stored -/
theorem seq_store_part {ty t : TypeId} {x y : Operand} {g k : Nat} {cs ds es : Array Value} (hop : o.op = .store ty x y) (hx : a.eval x = .pointer (some ⟨g, k, none⟩)) (hy : a.eval y = .agg ds) (hb : Blk w g t cs) (hn : k + ds.size ≤ cs.size) (he : putAt cs k ds.toList = es)
    (hi : (P.info? ty).map (·.size) = some ds.size) (h1 : ds.all (·.oneCell') = true) (hw : Region.wanted o (yielded ops a.tmps) = true) (hR : R w (w.setRow g es))
    (k : ∀ K : Act → World → Prop, (∀ a' w', wpSeq P ops R Q N r a' w' → K a' w') → K (a.put o.dst undef) (w.setRow g es)) : wpSeq P ops R Q N ((o, true) :: r) a w :=
  seq_store (w.setRow g es) hw (by
    unfold execOp
    simp only [hop, hx, hy, Sem.run_bind, run_store_part ty hb hn he hi h1, Result.andThen_ok, Sem.run_pure]) hR k
/-- a nil check of a pointer that is none -/
theorem seq_nil {x : Operand} {p : Addr} (hop : o.op = .nilCheck x) (hx : a.eval x = .pointer (some p)) (hw : Region.wanted o (yielded ops a.tmps) = true)
    (k : ∀ K : Act → Prop, (∀ a', wpSeq P ops R Q N r a' w → K a') → K (a.put o.dst (.pointer (some p)))) : wpSeq P ops R Q N ((o, false) :: r) a w :=
  seq_value (.pointer (some p)) hw (fun w' _ => by
    unfold execOp
    simp only [hop, hx]
    simp [go_sem]) k
theorem run_store_cell {g k : Nat} {t : TypeId} {cs es : Array Value} {v : Value} (ty : TypeId) (hb : Blk w g t cs) (hn : k < cs.size) (he : cs.setIfInBounds k v = es) (hi : (P.info? ty).map (·.size) = some 1) (hv : v.cells = #[v]) (h1 : v.oneCell' = true) :
    (storeVar ty ⟨g, k, none⟩ v).run P w = .ok () (w.setRow g es) := by
  have hs := run_storeCells_cells (P := P) g k [v] 0 w (fun j hj => by
    obtain rfl : j = 0 := by simpa using hj
    rw [Nat.add_zero, hb.cell, Array.getElem?_eq_getElem (by omega)]; rfl) (fun j hj => by
    obtain rfl : j = 0 := by simpa using hj
    rw [Nat.add_zero, hb.frozen]) (fun u hu => by
    obtain rfl : u = v := by simpa using hu
    exact h1)
  rw [Nat.add_zero, setCells_row _ _ _ _ t cs hb] at hs
  have hp : putAt cs k [v] = es := he
  rw [hp] at hs
  cases hq : P.info? ty with
  | none => simp [hq] at hi
  | some i =>
    have hs1 : i.size = 1 := by simpa [hq] using hi
    simp [storeVar, sizeOf, typeInfo, hq, hv, hs1, hs]
/-- one cell of a known block stored -/
theorem seq_store_cell {ty t : TypeId} {x y : Operand} {g k : Nat} {cs es : Array Value} {v : Value} (hop : o.op = .store ty x y) (hx : a.eval x = .pointer (some ⟨g, k, none⟩)) (hy : a.eval y = v) (hb : Blk w g t cs) (hn : k < cs.size) (he : cs.setIfInBounds k v = es)
    (hi : (P.info? ty).map (·.size) = some 1) (hv : v.cells = #[v]) (h1 : v.oneCell' = true) (hw : Region.wanted o (yielded ops a.tmps) = true) (hR : R w (w.setRow g es))
    (k : ∀ K : Act → World → Prop, (∀ a' w', wpSeq P ops R Q N r a' w' → K a' w') → K (a.put o.dst undef) (w.setRow g es)) : wpSeq P ops R Q N ((o, true) :: r) a w :=
  seq_store (w.setRow g es) hw (by
    unfold execOp
    simp only [hop, hx, hy, Instr.storeAt, Instr.sureAddr, Sem.run_bind, Sem.run_pure, Result.andThen_ok, run_store_cell ty hb hn he hi hv h1]) hR k
end
end Go.Proofs.YtlhoedpencmikaaGreatDoor
