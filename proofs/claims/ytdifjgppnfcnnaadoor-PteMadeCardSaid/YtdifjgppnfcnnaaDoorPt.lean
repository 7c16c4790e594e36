/- Entries and permissions (api.Pte, api.Perm): as values, as they come in, held against one another, stored and loaded whole. -/
import Derived.Test.YtdifjgppnfcnnaaDoorRows
import Derived.Test.YtdifjgppnfcnnaaDoorBox
import Derived.Laws.StructEq
import Derived.Laws.Tables
import Derived.Lib.SmallJoins
import Derived.ChangeArms
import Derived.OpenShut
import Derived.BigQuiet
namespace Go.Proofs.YtdifjgppnfcnnaaDoor
open Go.ChangeShapes Go.WideShapes Go.ChangeAt Go.RowKit Go.Joins Go.Deep
set_option linter.unusedVariables false
set_option linter.unusedSimpArgs false

/-! a struct of one-cell fields, however many, that came in -/
section
variable {H : Type} {enc : TypeId × Value → H} {P : Program} {w : World} {base : Nat} {spare : Nat → Bool} {held : Bool}
theorem open_aggs {r : Reach} {b0 : Nat} {t : TypeId} {fs : Array Field} {v : Value} {d : DataW H} {p : List MemPlace} (hs : P.underlying t = some (.struct fs)) (hone : oneCellFields P fs = true) (hC : P.cellsOf t = fs.size)
    (hv : Value.okWide P w r b0 t v) (h : DataW.Trod enc P w base spare held t v d p) :
    ∃ cs : Array Value, v = .agg cs ∧ cs.size = fs.size ∧ ∃ n, ∀ (j : Nat) (f : Field) (c : Value), fs[j]? = some f → cs[j]? = some c → ∃ y, DataW.trod enc P w base spare held n f.type [c] = some y := by
  obtain ⟨cs, rfl, hsz⟩ := okWide_struct hs hv
  obtain ⟨fuel, hf⟩ := h
  obtain ⟨xs, n, _, _, _, hlen, hg⟩ := DataW.trod_struct hs hf
  refine ⟨cs, rfl, hsz.trans hC, n, fun j f c hj hc => ?_⟩
  obtain ⟨o, k⟩ := hone_of hone j f hj
  have hjl : j < fs.size := (Array.getElem?_eq_some_iff.1 hj).1
  have hg1 := hg j f hj
  rw [o, k] at hg1
  obtain ⟨hjc, hce⟩ := Array.getElem?_eq_some_iff.1 hc
  have e1 : ((Value.agg cs).cells.toList.drop j).take 1 = [c] := by
    have : (Value.agg cs).cells = cs := by simp [Value.cells]
    rw [this, List.drop_eq_getElem_cons (by simpa using hjc)]
    simp [hce]
  rw [e1] at hg1
  exact ⟨_, hg1.trans (List.getElem?_eq_getElem (by omega))⟩
theorem open_u64f {t : TypeId} {c : Value} {n : Nat} {y : DataW H × List MemPlace} (ht : P.underlying t = some (.int .u64)) (h : DataW.trod enc P w base spare held n t [c] = some y) : ∃ z : Nat, c = .int .u64 (z : Int) ∧ z < 18446744073709551616 := by
  obtain ⟨z0, e0, -, w0⟩ := DataW.trod_int ht h
  have b0 := bounds_u64 w0
  simp only [List.cons.injEq, and_true] at e0
  obtain ⟨n0, rfl⟩ := Int.eq_ofNat_of_zero_le (show 0 ≤ z0 by omega)
  exact ⟨n0, e0, by omega⟩
theorem open_boolf {t : TypeId} {c : Value} {n : Nat} {y : DataW H × List MemPlace} (ht : P.underlying t = some .bool) (h : DataW.trod enc P w base spare held n t [c] = some y) : ∃ b : Bool, c = .bool b := by
  obtain ⟨b, e0, -⟩ := DataW.trod_bool ht h
  simp only [List.cons.injEq, and_true] at e0
  exact ⟨b, e0⟩
theorem array11 {α : Type} {cs : Array α} (h : cs.size = 11) : ∃ c0 c1 c2 c3 c4 c5 c6 c7 c8 c9 c10, cs = #[c0, c1, c2, c3, c4, c5, c6, c7, c8, c9, c10] := by
  obtain ⟨l⟩ := cs
  match l, h with
  | [c0, c1, c2, c3, c4, c5, c6, c7, c8, c9, c10], _ => exact ⟨c0, c1, c2, c3, c4, c5, c6, c7, c8, c9, c10, rfl⟩
end

/-- an entry -/
structure Pt where
  v : Bool
  r : Bool
  w : Bool
  x : Bool
  u : Bool
  g : Bool
  a : Bool
  d : Bool
  rs : Nat
  pp : Nat
  hi : Nat
deriving DecidableEq
/-- permissions -/
structure Pm where
  r : Bool
  w : Bool
  x : Bool
  u : Bool
deriving DecidableEq
def Pt.ok (p : Pt) : Prop := p.rs < 18446744073709551616 ∧ p.pp < 18446744073709551616 ∧ p.hi < 18446744073709551616
def ptC (p : Pt) : Array Value := #[.bool p.v, .bool p.r, .bool p.w, .bool p.x, .bool p.u, .bool p.g, .bool p.a, .bool p.d, .int .u64 (p.rs : Int), .int .u64 (p.pp : Int), .int .u64 (p.hi : Int)]
def pmC (p : Pm) : Array Value := #[.bool p.r, .bool p.w, .bool p.x, .bool p.u]
theorem ptC_def (v r w x u g a d : Bool) (rs pp hi : Nat) : ptC ⟨v, r, w, x, u, g, a, d, rs, pp, hi⟩ = #[.bool v, .bool r, .bool w, .bool x, .bool u, .bool g, .bool a, .bool d, .int .u64 (rs : Int), .int .u64 (pp : Int), .int .u64 (hi : Int)] := rfl
theorem pmC_def (r w x u : Bool) : pmC ⟨r, w, x, u⟩ = #[.bool r, .bool w, .bool x, .bool u] := rfl
theorem ptC_eq (p : Pt) : ptC p = #[.bool p.v, .bool p.r, .bool p.w, .bool p.x, .bool p.u, .bool p.g, .bool p.a, .bool p.d, .int .u64 (p.rs : Int), .int .u64 (p.pp : Int), .int .u64 (p.hi : Int)] := rfl
theorem pmC_eq (p : Pm) : pmC p = #[.bool p.r, .bool p.w, .bool p.x, .bool p.u] := rfl
theorem ptC_size (p : Pt) : (ptC p).size = 11 := rfl
theorem pmC_size (p : Pm) : (pmC p).size = 4 := rfl
theorem ptC_one (p : Pt) : (ptC p).all (·.oneCell') = true := by simp [ptC, Value.oneCell']
theorem pmC_one (p : Pm) : (pmC p).all (·.oneCell') = true := by simp [pmC, Value.oneCell']
theorem pt_info (p : Pt) : (Tryd.prog.info? 24).map (·.size) = some (ptC p).size := by rw [ptC_size]; kernel_rfl
theorem pm_info (p : Pm) : (Tryd.prog.info? 34).map (·.size) = some (pmC p).size := by rw [pmC_size]; kernel_rfl
attribute [irreducible] ptC pmC

section
variable {H : Type} {enc : TypeId × Value → H}
theorem open_pte {W : World} {b0 : Nat} {v : Value} {d : DataW H} {p : List MemPlace} (hv : Value.okWide Tryd.prog W .any b0 24 v) (h : DataW.Trod enc Tryd.prog W 0 (fun _ => true) true 24 v d p) :
    ∃ P : Pt, v = .agg (ptC P) ∧ P.ok := by
  obtain ⟨cs, rfl, hsz, n, hf⟩ := open_aggs Tryd.underlying24 (by kernel_rfl) (by kernel_rfl) hv h
  obtain ⟨c0, c1, c2, c3, c4, c5, c6, c7, c8, c9, c10, rfl⟩ := array11 hsz
  obtain ⟨_, h0⟩ := hf 0 _ _ rfl rfl
  obtain ⟨_, h1⟩ := hf 1 _ _ rfl rfl
  obtain ⟨_, h2⟩ := hf 2 _ _ rfl rfl
  obtain ⟨_, h3⟩ := hf 3 _ _ rfl rfl
  obtain ⟨_, h4⟩ := hf 4 _ _ rfl rfl
  obtain ⟨_, h5⟩ := hf 5 _ _ rfl rfl
  obtain ⟨_, h6⟩ := hf 6 _ _ rfl rfl
  obtain ⟨_, h7⟩ := hf 7 _ _ rfl rfl
  obtain ⟨_, h8⟩ := hf 8 _ _ rfl rfl
  obtain ⟨_, h9⟩ := hf 9 _ _ rfl rfl
  obtain ⟨_, h10⟩ := hf 10 _ _ rfl rfl
  obtain ⟨b0, rfl⟩ := open_boolf Tryd.underlying4 h0
  obtain ⟨b1, rfl⟩ := open_boolf Tryd.underlying4 h1
  obtain ⟨b2, rfl⟩ := open_boolf Tryd.underlying4 h2
  obtain ⟨b3, rfl⟩ := open_boolf Tryd.underlying4 h3
  obtain ⟨b4, rfl⟩ := open_boolf Tryd.underlying4 h4
  obtain ⟨b5, rfl⟩ := open_boolf Tryd.underlying4 h5
  obtain ⟨b6, rfl⟩ := open_boolf Tryd.underlying4 h6
  obtain ⟨b7, rfl⟩ := open_boolf Tryd.underlying4 h7
  obtain ⟨z8, rfl, w8⟩ := open_u64f Tryd.underlying22 h8
  obtain ⟨z9, rfl, w9⟩ := open_u64f Tryd.underlying22 h9
  obtain ⟨z10, rfl, w10⟩ := open_u64f Tryd.underlying22 h10
  exact ⟨⟨b0, b1, b2, b3, b4, b5, b6, b7, z8, z9, z10⟩, by rw [ptC_def], w8, w9, w10⟩
theorem open_perm {W : World} {b0 : Nat} {v : Value} {d : DataW H} {p : List MemPlace} (hv : Value.okWide Tryd.prog W .any b0 34 v) (h : DataW.Trod enc Tryd.prog W 0 (fun _ => true) true 34 v d p) :
    ∃ P : Pm, v = .agg (pmC P) := by
  obtain ⟨cs, rfl, hsz, n, hf⟩ := open_aggs Tryd.underlying34 (by kernel_rfl) (by kernel_rfl) hv h
  obtain ⟨c0, c1, c2, c3, rfl⟩ := array4 hsz
  obtain ⟨_, h0⟩ := hf 0 _ _ rfl rfl
  obtain ⟨_, h1⟩ := hf 1 _ _ rfl rfl
  obtain ⟨_, h2⟩ := hf 2 _ _ rfl rfl
  obtain ⟨_, h3⟩ := hf 3 _ _ rfl rfl
  obtain ⟨b0, rfl⟩ := open_boolf Tryd.underlying4 h0
  obtain ⟨b1, rfl⟩ := open_boolf Tryd.underlying4 h1
  obtain ⟨b2, rfl⟩ := open_boolf Tryd.underlying4 h2
  obtain ⟨b3, rfl⟩ := open_boolf Tryd.underlying4 h3
  exact ⟨⟨b0, b1, b2, b3⟩, by rw [pmC_def]⟩
end

/-! structs held against one another -/
theorem run_eqF {P : Program} {w : World} {d : Nat} {xs ys : Array Value} {f : Field} {fs : List Field} {a b : Value} {r s : Bool} (hn : f.name ≠ "_") (ha : (part f.type xs f.offset).run P w = .ok a w) (hb : (part f.type ys f.offset).run P w = .ok b w)
    (he : (Op.equalIn d f.type a b).run P w = .ok r w) (h : (Op.eqFields d xs ys fs).run P w = .ok s w) : (Op.eqFields d xs ys (f :: fs)).run P w = .ok (r && s) w := by
  simp only [Op.eqFields, if_pos hn, Sem.run_bind, ha, hb, he, Result.andThen_ok]
  cases r
  · simp [Sem.run_pure]
  · simpa using h
theorem part_bool {w : World} {cs : Array Value} {i : Nat} {v : Value} (h : cs[i]? = some v) : (part 4 cs i).run Tryd.prog w = .ok v w := by
  simp [part, go_sem, h, Tryd.underlying4, Sem.run_pure]
theorem part_u64 {w : World} {cs : Array Value} {i : Nat} {v : Value} (h : cs[i]? = some v) : (part 22 cs i).run Tryd.prog w = .ok v w := by
  simp [part, go_sem, h, Tryd.underlying22, Sem.run_pure]
theorem eql_pte (w : World) (p q : Pt) : (binOp .eql 24 (.agg (ptC p)) (.agg (ptC q))).run Tryd.prog w = .ok (.bool (decide (p = q))) w := by
  have hp : Tryd.prog.stoodInHeld 24 = false := by kernel_rfl
  rw [run_eql_struct, show (10000 : Nat) = 9998 + 1 + 1 from rfl, run_equalIn_agg w _ _ _ _ (by simp [Program.fieldsOf, Tryd.underlying24]) hp, ptC_eq p, ptC_eq q]
  simp only [Program.fieldsOf, Tryd.underlying24]
  have hd : decide (p = q) = (p.v == q.v && (p.r == q.r && (p.w == q.w && (p.x == q.x && (p.u == q.u && (p.g == q.g && (p.a == q.a && (p.d == q.d && ((p.rs : Int) == q.rs && ((p.pp : Int) == q.pp && ((p.hi : Int) == q.hi && true))))))))))) := by
    obtain ⟨v, r, w, x, u, g, a, d, rs, pp, hi⟩ := p
    obtain ⟨v', r', w', x', u', g', a', d', rs', pp', hi'⟩ := q
    rw [Bool.eq_iff_iff]
    simp
    omega
  rw [hd]
  have hi : ∀ a b : Int, (Op.equalIn (9998 + 1) 22 (.int .u64 a) (.int .u64 b)).run Tryd.prog w = .ok (a == b) w := fun a b => run_equalIn_int w 9998 _ _ _ _ _ Tryd.underlying22
  have hb : ∀ a b : Bool, (Op.equalIn (9998 + 1) 4 (.bool a) (.bool b)).run Tryd.prog w = .ok (a == b) w := fun a b => run_equalIn_bool' w 9998 _ _ _ Tryd.underlying4
  generalize 9998 + 1 = D at hi hb ⊢
  have key : (Op.eqFields D #[.bool p.v, .bool p.r, .bool p.w, .bool p.x, .bool p.u, .bool p.g, .bool p.a, .bool p.d, .int .u64 (p.rs : Int), .int .u64 (p.pp : Int), .int .u64 (p.hi : Int)] #[.bool q.v, .bool q.r, .bool q.w, .bool q.x, .bool q.u, .bool q.g, .bool q.a, .bool q.d, .int .u64 (q.rs : Int), .int .u64 (q.pp : Int), .int .u64 (q.hi : Int)] (Program.fieldsOf Tryd.prog 24).toList).run Tryd.prog w = .ok (p.v == q.v && (p.r == q.r && (p.w == q.w && (p.x == q.x && (p.u == q.u && (p.g == q.g && (p.a == q.a && (p.d == q.d && ((p.rs : Int) == q.rs && ((p.pp : Int) == q.pp && ((p.hi : Int) == q.hi && true))))))))))) w := by
    simp only [Program.fieldsOf, Tryd.underlying24]
    refine run_eqF ?_ (part_bool (by simp)) (part_bool (by simp)) (hb _ _) ?_
    · simp
    refine run_eqF ?_ (part_bool (by simp)) (part_bool (by simp)) (hb _ _) ?_
    · simp
    refine run_eqF ?_ (part_bool (by simp)) (part_bool (by simp)) (hb _ _) ?_
    · simp
    refine run_eqF ?_ (part_bool (by simp)) (part_bool (by simp)) (hb _ _) ?_
    · simp
    refine run_eqF ?_ (part_bool (by simp)) (part_bool (by simp)) (hb _ _) ?_
    · simp
    refine run_eqF ?_ (part_bool (by simp)) (part_bool (by simp)) (hb _ _) ?_
    · simp
    refine run_eqF ?_ (part_bool (by simp)) (part_bool (by simp)) (hb _ _) ?_
    · simp
    refine run_eqF ?_ (part_bool (by simp)) (part_bool (by simp)) (hb _ _) ?_
    · simp
    refine run_eqF ?_ (part_u64 (by simp)) (part_u64 (by simp)) (hi _ _) ?_
    · simp
    refine run_eqF ?_ (part_u64 (by simp)) (part_u64 (by simp)) (hi _ _) ?_
    · simp
    refine run_eqF ?_ (part_u64 (by simp)) (part_u64 (by simp)) (hi _ _) ?_
    · simp
    simp [Op.eqFields, Sem.run_pure]
  simp only [Program.fieldsOf, Tryd.underlying24] at key
  rw [key]; rfl
theorem neq_of_eql {w : World} {t : TypeId} {xs ys : Array Value} {b : Bool} (h : (binOp .eql t (.agg xs) (.agg ys)).run Tryd.prog w = .ok (.bool b) w) : (binOp .neq t (.agg xs) (.agg ys)).run Tryd.prog w = .ok (.bool (!b)) w := by
  rw [run_eql_struct] at h
  rw [run_neq_struct]
  cases hr : (Op.equalIn 10000 t (.agg xs) (.agg ys)).run Tryd.prog w with
  | ok x w1 => rw [hr] at h; simp only [Result.andThen_ok, Result.ok.injEq, Value.bool.injEq] at h ⊢; exact ⟨by rw [h.1], h.2⟩
  | halt x w1 => rw [hr] at h; simp [Result.andThen] at h
theorem neq_pte (w : World) (p q : Pt) : (binOp .neq 24 (.agg (ptC p)) (.agg (ptC q))).run Tryd.prog w = .ok (.bool (!decide (p = q))) w := neq_of_eql (eql_pte w p q)
theorem eql_perm (w : World) (p q : Pm) : (binOp .eql 34 (.agg (pmC p)) (.agg (pmC q))).run Tryd.prog w = .ok (.bool (decide (p = q))) w := by
  have hp : Tryd.prog.stoodInHeld 34 = false := by kernel_rfl
  rw [run_eql_struct, show (10000 : Nat) = 9998 + 1 + 1 from rfl, run_equalIn_agg w _ _ _ _ (by simp [Program.fieldsOf, Tryd.underlying34]) hp, pmC_eq p, pmC_eq q]
  have hd : decide (p = q) = (p.r == q.r && (p.w == q.w && (p.x == q.x && (p.u == q.u && true)))) := by
    obtain ⟨r, w, x, u⟩ := p
    obtain ⟨r', w', x', u'⟩ := q
    rw [Bool.eq_iff_iff]
    simp
  rw [hd]
  have hb : ∀ a b : Bool, (Op.equalIn (9998 + 1) 4 (.bool a) (.bool b)).run Tryd.prog w = .ok (a == b) w := fun a b => run_equalIn_bool' w 9998 _ _ _ Tryd.underlying4
  generalize 9998 + 1 = D at hb ⊢
  have key : (Op.eqFields D #[.bool p.r, .bool p.w, .bool p.x, .bool p.u] #[.bool q.r, .bool q.w, .bool q.x, .bool q.u] (Program.fieldsOf Tryd.prog 34).toList).run Tryd.prog w = .ok (p.r == q.r && (p.w == q.w && (p.x == q.x && (p.u == q.u && true)))) w := by
    simp only [Program.fieldsOf, Tryd.underlying34]
    refine run_eqF ?_ (part_bool (by simp)) (part_bool (by simp)) (hb _ _) ?_
    · simp
    refine run_eqF ?_ (part_bool (by simp)) (part_bool (by simp)) (hb _ _) ?_
    · simp
    refine run_eqF ?_ (part_bool (by simp)) (part_bool (by simp)) (hb _ _) ?_
    · simp
    refine run_eqF ?_ (part_bool (by simp)) (part_bool (by simp)) (hb _ _) ?_
    · simp
    simp [Op.eqFields, Sem.run_pure]
  rw [key]; rfl
theorem pte_guard : Tryd.prog.eqGuardType Tryd.prog.depth 24 = false := by kernel_rfl
theorem perm_guard : Tryd.prog.eqGuardType Tryd.prog.depth 34 = false := by kernel_rfl

/-! a struct stored into a block that was just made; a struct loaded -/
theorem setRow_new (w : World) (old cs : Array Value) (t : TypeId) : (w.alloc (.cells old t)).setRow w.heap.size cs = w.alloc (.cells cs t) := by
  have hlt : w.heap.size < (w.alloc (.cells old t)).heap.size := by simp
  unfold World.setRow World.alloc
  congr 1
  apply Array.ext
  · simp
  · intro j h1 h2
    simp only [Array.getElem_modify, Array.getElem_push]
    by_cases hj : j < w.heap.size
    · simp [hj, show w.heap.size ≠ j by omega]
    · simp [hj, show w.heap.size = j by simp at h1; omega]
theorem wpList_store_new {P : Program} {ops : Array Oper} {rest : List Oper} {o : Oper} {a : Act} {w : World} {Q : Exit → Act → World → Prop} (hgd : o.guard = none) (ty : TypeId) (x y : Operand) (ho : o.op = .store ty x y)
    (cs old : Array Value) (t : TypeId) (hx : a.eval x = .pointer (some ⟨w.heap.size, 0, none⟩)) (hy : a.eval y = .agg cs) (hi : (P.info? ty).map (·.size) = some cs.size) (hold : old.size = cs.size) (h1 : cs.all (·.oneCell') = true)
    (h : wpList P ops Q rest (a.put o.dst undef) (w.alloc (.cells cs t))) : wpList P ops Q (o :: rest) a (w.alloc (.cells old t)) :=
  wpList_store_row hgd ty x y ho w.heap.size cs hx hy t old (heap_alloc_new w _) hi hold h1 (by rw [setRow_new]; exact h)
theorem wpList_load_blk {P : Program} {ops : Array Oper} {rest : List Oper} {o : Oper} {a : Act} {w : World} {Q : Exit → Act → World → Prop} {g : Nat} {t : TypeId} {cs : Array Value} {d : TypeDesc} (hw : Region.wanted o (yielded ops a.tmps) = true) (ty : TypeId) (x : Operand) (ho : o.op = .load ty x)
    (hx : a.eval x = .pointer (some ⟨g, 0, none⟩)) (hb : Blk w g t cs) (hu : P.underlying ty = some d) (hd : (match d with | .struct _ | .array _ _ => true | _ => false) = true) (hi : (P.info? ty).map (·.size) = some cs.size)
    (h : wpList P ops Q rest (a.put o.dst (.agg cs)) w) : wpList P ops Q (o :: rest) a w :=
  wpList_step fun _ hK => by
    rw [if_pos hw]
    exact wp_load_row ty x ho g hx t cs (0, 0) d hb hu hd hi (hK _ _ h)
end Go.Proofs.YtdifjgppnfcnnaaDoor
