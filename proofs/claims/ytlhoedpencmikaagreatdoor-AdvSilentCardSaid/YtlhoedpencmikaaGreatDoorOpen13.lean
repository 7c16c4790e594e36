/- Sets and slices of entries (api.Set, []api.Entry), as they come in; an element of a row that came in, loaded. -/
import Derived.Test.YtlhoedpencmikaaGreatDoorOpen12
import Derived.Test.YtlhoedpencmikaaGreatDoorGtwel
import Derived.Test.YtlhoedpencmikaaGreatDoorGthir
import Derived.Test.YtlhoedpencmikaaGreatDoorGagg
import Derived.Deep.Slices
import Derived.Deep.MidRow
namespace Go.Proofs.YtlhoedpencmikaaGreatDoor
open Go.ChangeShapes Go.WideShapes Go.ChangeAt Go.RowKit Go.Joins Go.Deep
set_option linter.unusedVariables false
set_option linter.unusedSimpArgs false
set_option maxRecDepth 10000

section
variable {P : Program} {ops : Array Oper} {rest : List Oper} {o : Oper} {a : Act} {w : World} {Q : Exit → Act → World → Prop}
theorem wpList_load_rng {g k : Nat} {ds : Array Value} {d : TypeDesc} (hw : Region.wanted o (yielded ops a.tmps) = true) (ty : TypeId) (x : Operand) (ho : o.op = .load ty x)
    (hx : a.eval x = .pointer (some ⟨g, k, none⟩)) (hb : w.rangeAt g k ds.toList) (hu : P.underlying ty = some d) (hd : d.isRow = true) (hi : (P.info? ty).map (·.size) = some ds.size)
    (h : wpList P ops Q rest (a.put o.dst (.agg ds)) w) : wpList P ops Q (o :: rest) a w :=
  wpList_step fun _ hK => by
    rw [if_pos hw]
    unfold Oper.wp execOp
    have hr := run_loadAt_mid (P := P) w g k ty ds.toList d hb hu hd (by simpa using hi)
    simp only [Array.toArray_toList] at hr
    simp only [ho, hx, Sem.run_bind, hr, Result.andThen_ok]
    exact hK _ _ h
end
section
variable {P : Program} {ops : Array Oper} {R : World → World → Prop} {Q : Exit → Act → World → Prop} {N : Act → World → Prop} {o : Oper} {r : List (Oper × Bool)} {a : Act} {w : World}
theorem seq_load_rng {ty : TypeId} {x : Operand} {g k : Nat} {ds : Array Value} {d : TypeDesc}
    (hop : o.op = .load ty x) (hx : a.eval x = .pointer (some ⟨g, k, none⟩)) (hb : ∀ w', R w w' → w'.rangeAt g k ds.toList)
    (hd : d.isRow = true) (hu : P.underlying ty = some d) (hi : (P.info? ty).map (·.size) = some ds.size) (hw : Region.wanted o (yielded ops a.tmps) = true)
    (k : ∀ K : Act → Prop, (∀ a', wpSeq P ops R Q N r a' w → K a') → K (a.put o.dst (.agg ds))) : wpSeq P ops R Q N ((o, false) :: r) a w :=
  seq_value (.agg ds) hw (fun w' hw' => by
    unfold execOp
    have hr := run_loadAt_mid (P := P) w' g _ ty ds.toList d (hb w' hw') hu hd (by simpa using hi)
    simp only [Array.toArray_toList] at hr
    simp only [hop, hx, Sem.run_bind, hr, Result.andThen_ok, Sem.run_pure]) k
end
section
variable {H : Type} {enc : TypeId × Value → H}
theorem en_leaves {W : World} {base : Nat} {sp : Nat → Bool} {held : Bool} {l : List Value} (ha : All2 (fun c u => ∃ m y, DataW.trod enc Tryz.prog W base sp held m u [c] = some y) l [4, 25, 4, 3, 25, 25, 4, 4, 4, 4, 4]) :
    ∃ P : En, l = (enC P).toList ∧ P.ok := by
  match l, ha with
  | [c0, c1, c2, c3, c4, c5, c6, c7, c8, c9, c10], ha =>
  obtain ⟨⟨_, _, h0⟩, ⟨_, _, h1⟩, ⟨_, _, h2⟩, ⟨_, _, h3⟩, ⟨_, _, h4⟩, ⟨_, _, h5⟩, ⟨_, _, h6⟩, ⟨_, _, h7⟩, ⟨_, _, h8⟩, ⟨_, _, h9⟩, ⟨_, _, h10⟩, _⟩ := ha
  obtain ⟨z0, rfl⟩ := open_boolf Tryz.underlying4 h0
  obtain ⟨z1, rfl, w1⟩ := open_u64f Tryz.underlying25 h1
  obtain ⟨z2, rfl⟩ := open_boolf Tryz.underlying4 h2
  obtain ⟨z3, rfl, w3⟩ := open_intf Tryz.underlying3 h3
  obtain ⟨z4, rfl, w4⟩ := open_u64f Tryz.underlying25 h4
  obtain ⟨z5, rfl, w5⟩ := open_u64f Tryz.underlying25 h5
  obtain ⟨z6, rfl⟩ := open_boolf Tryz.underlying4 h6
  obtain ⟨z7, rfl⟩ := open_boolf Tryz.underlying4 h7
  obtain ⟨z8, rfl⟩ := open_boolf Tryz.underlying4 h8
  obtain ⟨z9, rfl⟩ := open_boolf Tryz.underlying4 h9
  obtain ⟨z10, rfl⟩ := open_boolf Tryz.underlying4 h10
  exact ⟨⟨z0, z1, z2, z3, z4, z5, ⟨z6, z7, z8, z9⟩, z10⟩, by simp only [enC_def, pmC_def]; rfl, ⟨w1, bounds_i64 w3, w4, w5, trivial⟩⟩
theorem mapM_at {α β : Type} {f : α → Option β} : ∀ {l : List α} {m : List β}, l.mapM f = some m → ∀ (j : Nat) (x : α), l[j]? = some x → ∃ y : β, f x = some y ∧ m[j]? = some y
  | [], m, h, j, x, hj => by simp at hj
  | b :: l, m, h, j, x, hj => by
    simp only [List.mapM_cons, Option.bind_eq_bind, Option.bind_eq_some_iff, Option.pure_def, Option.some.injEq] at h
    obtain ⟨y, hy, ys, hys, rfl⟩ := h
    cases j with
    | zero => simp at hj; subst hj; exact ⟨y, hy, by simp⟩
    | succ j => simpa using mapM_at hys j x (by simpa using hj)
theorem cells_rng {W : World} {base n b off : Nat} {cs : List Value} (h : W.cells? base ⟨b, off, none⟩ n = some cs) (hn : cs.length = n) : W.rangeAt b off cs := by
  unfold World.cells? at h
  split at h
  case isFalse => cases h
  case isTrue hb =>
  intro j v hj
  have hlt : j < n := by
    have := (List.getElem?_eq_some_iff.1 hj).1
    omega
  obtain ⟨y, hy, hm⟩ := mapM_at h j j (by simp [hlt])
  rw [hj] at hm
  rw [Addr.add_mid] at hy
  rw [hy]
  exact hm.symm
end
theorem All2.split {α β : Type} {R : α → β → Prop} : ∀ {b c : List β} {l : List α}, All2 R l (b ++ c) → ∃ l1 l2, l = l1 ++ l2 ∧ All2 R l1 b ∧ All2 R l2 c
  | [], c, l, h => ⟨[], l, rfl, trivial, h⟩
  | x :: b, c, [], h => h.elim
  | x :: b, c, a :: l, h => by
    obtain ⟨l1, l2, h1, h2, h3⟩ := All2.split (b := b) (c := c) (l := l) h.2
    exact ⟨a :: l1, l2, by rw [h1]; rfl, ⟨h.1, h2⟩, h3⟩
section
variable {H : Type} {enc : TypeId × Value → H}
end
end Go.Proofs.YtlhoedpencmikaaGreatDoor
