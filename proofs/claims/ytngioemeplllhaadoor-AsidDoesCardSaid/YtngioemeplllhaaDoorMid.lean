/- Structs that lie in structs: a part of a block loaded and stored whole; regions that store into blocks of their own; results that lie in several blocks. -/
import Derived.Test.YtngioemeplllhaaDoorAgg
import Derived.Test.YtngioemeplllhaaDoorFork
import Derived.Deep.MidRow
namespace Go.Proofs.YtngioemeplllhaaDoor
open Go.ChangeShapes Go.WideShapes Go.ChangeAt Go.RowKit
set_option linter.unusedVariables false
set_option linter.unusedSimpArgs false
set_option maxRecDepth 10000

/-- cells put over others from a place on -/
def putAt (cs : Array Value) : Nat → List Value → Array Value
  | _, [] => cs
  | o, v :: r => putAt (cs.setIfInBounds o v) (o + 1) r
theorem putAt_size : ∀ (vs : List Value) (cs : Array Value) (o : Nat), (putAt cs o vs).size = cs.size
  | [], _, _ => rfl
  | v :: r, cs, o => by rw [putAt, putAt_size r]; simp
theorem setRow_self {w : World} {g : Nat} {t : TypeId} {cs : Array Value} (h : Blk w g t cs) : w.setRow g cs = w := by
  obtain ⟨hl, he⟩ := Array.getElem?_eq_some_iff.1 h
  unfold World.setRow
  congr 1
  apply Array.ext_getElem?
  intro j
  rw [Array.getElem?_modify]
  by_cases hj : g = j
  · subst hj; rw [if_pos rfl, h]; rfl
  · rw [if_neg hj]
theorem setRow_setRow (w : World) (g : Nat) (cs ds : Array Value) : (w.setRow g cs).setRow g ds = w.setRow g ds := by
  unfold World.setRow
  congr 1
  apply Array.ext_getElem?
  intro j
  simp only [Array.getElem?_modify]
  by_cases hj : g = j
  · subst hj
    simp only [if_true]
    cases w.heap[g]? with
    | none => rfl
    | some o => cases o <;> rfl
  · simp only [if_neg hj]
theorem setCells_row : ∀ (vs : List Value) (w : World) (g o : Nat) (t : TypeId) (cs : Array Value), Blk w g t cs → w.setCells g o vs = w.setRow g (putAt cs o vs)
  | [], w, g, o, t, cs, h => (setRow_self h).symm
  | v :: r, w, g, o, t, cs, h => by
    rw [World.setCells, putAt, setCell_eq_setRow w g o cs t (0, 0) v h]
    rw [setCells_row r _ g (o + 1) t _ (h.row _), setRow_setRow]
theorem Blk.there {w : World} {g : Nat} {t : TypeId} {cs : Array Value} (h : Blk w g t cs) {o n : Nat} (hn : o + n ≤ cs.size) : w.there g o n := fun j hj => by
  rw [h.cell, h.frozen, Array.getElem?_eq_getElem (by omega)]
  exact ⟨rfl, rfl⟩
theorem Blk.part {w : World} {g : Nat} {t : TypeId} {cs : Array Value} (h : Blk w g t cs) (o : Nat) {ds : Array Value} (he : cs.extract o (o + ds.size) = ds) : w.rangeAt g o ds.toList := by
  have := World.rangeAt_of_block h o ds.size
  rwa [he] at this

section
variable {P : Program} {ops : Array Oper} {rest : List Oper} {o : Oper} {a : Act} {w : World} {Q : Exit → Act → World → Prop}
theorem run_load_part {g k : Nat} {t : TypeId} {cs ds : Array Value} {d : TypeDesc} (ty : TypeId) (hb : Blk w g t cs) (he : cs.extract k (k + ds.size) = ds)
    (hu : P.underlying ty = some d) (hd : d.isRow = true) (hi : (P.info? ty).map (·.size) = some ds.size) : (Instr.loadAt ty (.pointer (some ⟨g, k, none⟩))).run P w = .ok (.agg ds) w := by
  have := run_loadAt_mid (P := P) w g k ty ds.toList d (hb.part k he) hu hd (by simpa using hi)
  simpa using this
theorem wpList_load_part {g k : Nat} {t : TypeId} {cs ds : Array Value} {d : TypeDesc} (hw : Region.wanted o (yielded ops a.tmps) = true) (ty : TypeId) (x : Operand) (ho : o.op = .load ty x)
    (hx : a.eval x = .pointer (some ⟨g, k, none⟩)) (hb : Blk w g t cs) (he : cs.extract k (k + ds.size) = ds) (hu : P.underlying ty = some d) (hd : d.isRow = true) (hi : (P.info? ty).map (·.size) = some ds.size)
    (h : wpList P ops Q rest (a.put o.dst (.agg ds)) w) : wpList P ops Q (o :: rest) a w :=
  wpList_step fun _ hK => by
    rw [if_pos hw]
    unfold Oper.wp execOp
    simp only [ho, hx, Sem.run_bind, run_load_part ty hb he hu hd hi, Result.andThen_ok]
    exact hK _ _ h
theorem run_store_part {g k : Nat} {t : TypeId} {cs ds es : Array Value} (ty : TypeId) (hb : Blk w g t cs) (hn : k + ds.size ≤ cs.size) (he : putAt cs k ds.toList = es) (hi : (P.info? ty).map (·.size) = some ds.size) (h1 : ds.all (·.oneCell') = true) :
    (Instr.storeAt ty (.pointer (some ⟨g, k, none⟩)) (.agg ds)).run P w = .ok () (w.setRow g es) := by
  rw [run_storeAt_mid w g k ty ds (hb.there hn) hi h1, setCells_row _ _ _ _ t cs hb, he]
theorem wpList_store_part {g k : Nat} {t : TypeId} {cs ds es : Array Value} (hgd : o.guard = none) (ty : TypeId) (x y : Operand) (ho : o.op = .store ty x y)
    (hx : a.eval x = .pointer (some ⟨g, k, none⟩)) (hy : a.eval y = .agg ds) (hb : Blk w g t cs) (hn : k + ds.size ≤ cs.size) (he : putAt cs k ds.toList = es) (hi : (P.info? ty).map (·.size) = some ds.size) (h1 : ds.all (·.oneCell') = true)
    (h : wpList P ops Q rest (a.put o.dst undef) (w.setRow g es)) : wpList P ops Q (o :: rest) a w :=
  wpList_plain hgd fun _ hK => by
    unfold Oper.wp execOp
    simp only [ho, hx, hy, Sem.run_bind, run_store_part ty hb hn he hi h1, Result.andThen_ok]
    exact hK _ _ h
theorem wpList_store_blk {g : Nat} {t : TypeId} {cs old : Array Value} (hgd : o.guard = none) (ty : TypeId) (x y : Operand) (ho : o.op = .store ty x y) (hx : a.eval x = .pointer (some ⟨g, 0, none⟩)) (hy : a.eval y = .agg cs)
    (hb : Blk w g t old) (hi : (P.info? ty).map (·.size) = some cs.size) (hold : old.size = cs.size) (h1 : cs.all (·.oneCell') = true) (h : wpList P ops Q rest (a.put o.dst undef) (w.setRow g cs)) : wpList P ops Q (o :: rest) a w :=
  wpList_store_row hgd ty x y ho g cs hx hy t old hb hi hold h1 h
/-- one cell of a known block stored -/
theorem wpList_store_cell {g k : Nat} {t : TypeId} {cs es : Array Value} {v : Value} (hgd : o.guard = none) (ty : TypeId) (x y : Operand) (ho : o.op = .store ty x y)
    (hx : a.eval x = .pointer (some ⟨g, k, none⟩)) (hy : a.eval y = v) (hb : Blk w g t cs) (hn : k < cs.size) (he : cs.setIfInBounds k v = es) (hi : (P.info? ty).map (·.size) = some 1) (hv : v.cells = #[v]) (h1 : v.oneCell' = true)
    (h : wpList P ops Q rest (a.put o.dst undef) (w.setRow g es)) : wpList P ops Q (o :: rest) a w :=
  wpList_plain hgd fun _ hK => by
    have hs := run_storeCells_cells (P := P) g k [v] 0 w (fun j hj => by
      obtain rfl : j = 0 := by simpa using hj
      rw [Nat.add_zero, hb.cell, Array.getElem?_eq_getElem (by omega)]; rfl) (fun j hj => by
      obtain rfl : j = 0 := by simpa using hj
      rw [Nat.add_zero, hb.frozen]) (fun u hu => by
      obtain rfl : u = v := by simpa using hu
      exact h1)
    rw [Nat.add_zero, setCells_row _ _ _ _ t cs hb] at hs
    have hp : putAt cs k [v] = es := he
    rw [hp] at hs
    have hst : (storeVar ty ⟨g, k, none⟩ v).run P w = .ok () (w.setRow g es) := by
      cases hq : P.info? ty with
      | none => simp [hq] at hi
      | some i =>
        have hs1 : i.size = 1 := by simpa [hq] using hi
        simp [storeVar, sizeOf, typeInfo, hq, hv, hs1, hs]
    unfold Oper.wp execOp
    simp only [ho, hx, hy, Instr.storeAt, Instr.sureAddr, Sem.run_bind, Sem.run_pure, Result.andThen_ok, hst]
    exact hK _ _ h
/-- a value made of parts: its cells by a law of one's own -/
theorem wpList_build_as {t : TypeId} {parts : Array (Nat × Operand)} {cs : Array Value} (hw : Region.wanted o (yielded ops a.tmps) = true) (ho : o.op = .build t parts) (hc : P.built t (parts.toList.map fun q => (q.1, a.eval q.2)) = some cs)
    (h : wpList P ops Q rest (a.put o.dst (.agg cs)) w) : wpList P ops Q (o :: rest) a w :=
  wpList_step fun _ hK => by
    have hc' : P.built t (parts.map fun (i, x) => (i, a.eval x)).toList = some cs := by rw [Array.toList_map]; exact hc
    rw [if_pos hw]
    unfold Oper.wp execOp
    simp only [ho, Sem.run_bind, run_build w t _ cs hc', Result.andThen_ok]
    exact hK _ _ h
end

/-! regions walked once that store into blocks of their own -/
/-- all blocks but those from lo on, below hi, are as they were -/
def Gap (lo hi : Nat) (x y : World) : Prop := x.heap.size ≤ y.heap.size ∧ ∀ b, b < x.heap.size → (b < lo ∨ hi ≤ b) → y.heap[b]? = x.heap[b]?
theorem Gap.refl (lo hi : Nat) (x : World) : Gap lo hi x x := ⟨Nat.le_refl _, fun _ _ _ => rfl⟩
theorem Gap.trans {lo hi : Nat} {x y z : World} (h : Gap lo hi x y) (k : Gap lo hi y z) : Gap lo hi x z := ⟨Nat.le_trans h.1 k.1, fun b hb hn => (k.2 b (Nat.lt_of_lt_of_le hb h.1) hn).trans (h.2 b hb hn)⟩
theorem Gap.ext {lo hi : Nat} {x y : World} (h : Ext x y) : Gap lo hi x y := ⟨h.size, fun b hb _ => h.block b hb⟩
theorem Gap.row {lo hi : Nat} (x : World) {g : Nat} (h1 : lo ≤ g) (h2 : g < hi) (cs : Array Value) : Gap lo hi x (x.setRow g cs) :=
  ⟨by rw [size_setRow]; exact Nat.le_refl _, fun b hb hn => setRow_other x g b cs (by omega)⟩
theorem Gap.blk {lo hi : Nat} {w w' : World} {g : Nat} {t : TypeId} {cs : Array Value} (hE : Gap lo hi w w') (h : Blk w g t cs) (hn : g < lo ∨ hi ≤ g) : Blk w' g t cs := (hE.2 g h.lt hn).trans h

section
variable {P : Program} {ops : Array Oper} {R : World → World → Prop} {Q : Exit → Act → World → Prop} {N : Act → World → Prop} {o : Oper} {r : List (Oper × Bool)} {a : Act} {w : World}
theorem seq_load_part {ty t : TypeId} {x : Operand} {g k : Nat} {cs ds : Array Value} {d : TypeDesc}
    (hop : o.op = .load ty x) (hx : a.eval x = .pointer (some ⟨g, k, none⟩)) (hb : ∀ w', R w w' → Blk w' g t cs) (he : cs.extract k (k + ds.size) = ds)
    (hd : d.isRow = true) (hu : P.underlying ty = some d) (hi : (P.info? ty).map (·.size) = some ds.size) (hw : Region.wanted o (yielded ops a.tmps) = true)
    (k : ∀ K : Act → Prop, (∀ a', wpSeq P ops R Q N r a' w → K a') → K (a.put o.dst (.agg ds))) : wpSeq P ops R Q N ((o, false) :: r) a w :=
  seq_value (.agg ds) hw (fun w' hw' => by
    unfold execOp
    simp only [hop, hx, Sem.run_bind, run_load_part ty (hb w' hw') he hu hd hi, Result.andThen_ok, Sem.run_pure]) k
theorem seq_build_as {t : TypeId} {parts : Array (Nat × Operand)} {cs : Array Value} (hop : o.op = .build t parts) (hc : P.built t (parts.toList.map fun q => (q.1, a.eval q.2)) = some cs) (hw : Region.wanted o (yielded ops a.tmps) = true)
    (k : ∀ K : Act → Prop, (∀ a', wpSeq P ops R Q N r a' w → K a') → K (a.put o.dst (.agg cs))) : wpSeq P ops R Q N ((o, false) :: r) a w :=
  have hc' : P.built t (parts.map fun (i, x) => (i, a.eval x)).toList = some cs := by rw [Array.toList_map]; exact hc
  seq_value (.agg cs) hw (fun w' hw' => by
    unfold execOp
    simp only [hop, Sem.run_bind, run_build w' t _ cs hc', Result.andThen_ok, Sem.run_pure]) k
end

/-- the builtin append, alone at its place -/
theorem seq_append {P : Program} {ops : Array Oper} {R : World → World → Prop} {Q : Exit → Act → World → Prop} {N : Act → World → Prop} {o : Oper} {r : List (Oper × Bool)} {a : Act} {w : World} (v : Value) (w1 : World) {s x : Operand} {t1 t2 ty : TypeId} (u y : Value)
    (hop : o.op = .call { callee := .builtin .append, args := #[s, x], argTypes := #[t1, t2] }) (hty : o.type = ty) (hs : a.eval s = u) (hx : a.eval x = y) (hw : Region.wanted o (yielded ops a.tmps) = true)
    (hrun : (Builtin.append_ #[t1, t2] ty #[u, y]).run P w = .ok v w1) (hR : R w w1)
    (k : ∀ K : Act → World → Prop, (∀ a' w', wpSeq P ops R Q N r a' w' → K a' w') → K (a.put o.dst v) w1) : wpSeq P ops R Q N ((o, true) :: r) a w :=
  seq_run v w1 hw (by
    subst hty
    unfold execOp
    simp only [hop, resolve, invoke, builtin, Sem.run_bind, Sem.run_pure, Result.andThen_ok, List.map_toArray, List.map_cons, List.map_nil, hs, hx, hrun]) hR k

/-! structs held against one another, in both kinds of regions (the comparison as a fact, no simp over its parts) -/
theorem run_b {P : Program} {w : World} {s : Sem Value} {b c : Bool} (h : s.run P w = .ok (.bool b) w) (e : b = c) : s.run P w = .ok (.bool c) w := by rw [h, e]
theorem dec_same {α : Type} [DecidableEq α] (p : α) : decide (p = p) = true := by simp
theorem dec_nots {α : Type} [DecidableEq α] (p : α) : (!decide (p = p)) = false := by simp
theorem run_cmp {P : Program} {w : World} {ρ : Operand → Value} {o : Oper} {op : BinOp} {t t2 : TypeId} {x y : Operand} {xs ys : Array Value} {v : Value} (hop : o.op = .binOp op t x y t2) (hx : ρ x = .agg xs) (hy : ρ y = .agg ys)
    (hg : P.eqGuardType P.depth t = false) (he : (binOp op t (.agg xs) (.agg ys)).run P w = .ok v w) : (execOp ρ o).run P w = .ok (.value v) w := by
  unfold execOp
  simp only [hop, hx, hy, Sem.run_bind, run_eqGuard_agg w op t x y xs ys hg, he, Result.andThen_ok, Sem.run_pure]
theorem seq_cmp {P : Program} {ops : Array Oper} {R : World → World → Prop} {Q : Exit → Act → World → Prop} {N : Act → World → Prop} {o : Oper} {r : List (Oper × Bool)} {a : Act} {w : World} {op : BinOp} {t t2 : TypeId} {x y : Operand} {xs ys : Array Value} {v : Value}
    (hop : o.op = .binOp op t x y t2) (hx : a.eval x = .agg xs) (hy : a.eval y = .agg ys) (hg : P.eqGuardType P.depth t = false) (he : ∀ w, (binOp op t (.agg xs) (.agg ys)).run P w = .ok v w) (hw : Region.wanted o (yielded ops a.tmps) = true)
    (k : ∀ K : Act → Prop, (∀ a', wpSeq P ops R Q N r a' w → K a') → K (a.put o.dst v)) : wpSeq P ops R Q N ((o, false) :: r) a w :=
  seq_value v hw (fun w' _ => run_cmp hop hx hy hg (he w')) k
theorem wpList_cmp {P : Program} {ops : Array Oper} {rest : List Oper} {o : Oper} {a : Act} {w : World} {Q : Exit → Act → World → Prop} {op : BinOp} {t2 : TypeId} {x y : Operand} {xs ys : Array Value} {v : Value} (hw : Region.wanted o (yielded ops a.tmps) = true)
    (t : TypeId) (hop : o.op = .binOp op t x y t2) (hx : a.eval x = .agg xs) (hy : a.eval y = .agg ys) (hg : P.eqGuardType P.depth t = false) (he : ∀ w, (binOp op t (.agg xs) (.agg ys)).run P w = .ok v w)
    (h : wpList P ops Q rest (a.put o.dst v) w) : wpList P ops Q (o :: rest) a w :=
  wpList_step fun _ hK => by
    rw [if_pos hw]
    unfold Oper.wp
    simp only [run_cmp hop hx hy hg (he w)]
    exact hK _ _ h

/-! structs in structs, held against one another -/
theorem part_agg {P : Program} {w : World} {cs ds : Array Value} {k : Nat} {t : TypeId} {d : TypeDesc} (hu : P.underlying t = some d) (hd : d.isRow = true) (hi : (P.info? t).map (·.size) = some ds.size) (he : cs.extract k (k + ds.size) = ds) :
    (part t cs k).run P w = .ok (.agg ds) w := by
  cases hq : P.info? t with
  | none => simp [hq] at hi
  | some i =>
    have hs : i.size = ds.size := by simpa [hq] using hi
    have hagg : (isAgg t).run P w = .ok true w := by
      unfold isAgg
      rw [Sem.run_bind, run_underlying hu w]
      cases d <;> simp_all
    simp [part, Sem.run_bind, hagg, sizeOf, typeInfo, hq, hs, he]

/-! results in several blocks -/
theorem run_result {P : Program} {w : World} {g : Nat} {t ty : TypeId} {cs : Array Value} {d : TypeDesc} (hg : Blk w g t cs) (hu : P.underlying ty = some d) (hd : d.isRow = true) (hi : (P.info? ty).map (·.size) = some cs.size) :
    (loadVar ty ⟨g, 0, none⟩).run P w = .ok (.agg cs) w := run_loadVar_row w g t ty cs (0, 0) d hg hu (by cases d <;> first | rfl | exact hd) hi
theorem results_cc {fn : Func} {p q : Tmp} {tp tq : TypeId} {P : Program} (h : fn.results = #[.cell p tp, .cell q tq]) (tmps : Array Value) (w : World) {g k : Nat} {t u : TypeId} {cs ds : Array Value} {d e : TypeDesc}
    (hp : tmps.getD p undef = .pointer (some ⟨g, 0, none⟩)) (hq : tmps.getD q undef = .pointer (some ⟨k, 0, none⟩)) (hg : Blk w g t cs) (hk : Blk w k u ds)
    (hu : P.underlying tp = some d) (hd : d.isRow = true) (hi : (P.info? tp).map (·.size) = some cs.size) (hu2 : P.underlying tq = some e) (hd2 : e.isRow = true) (hi2 : (P.info? tq).map (·.size) = some ds.size) :
    (results fn tmps).run P w = .ok (.tuple #[.agg cs, .agg ds]) w := by
  have hp' : tmps[p]?.getD undef = .pointer (some ⟨g, 0, none⟩) := by simpa using hp
  have hq' : tmps[q]?.getD undef = .pointer (some ⟨k, 0, none⟩) := by simpa using hq
  simp only [results, h]
  simp [Sem.run_bind, Result.andThen, hp', hq', asAddr, run_result hg hu hd hi, run_result hk hu2 hd2 hi2]
theorem results_ccc {fn : Func} {p q r : Tmp} {tp tq tr : TypeId} {P : Program} (h : fn.results = #[.cell p tp, .cell q tq, .cell r tr]) (tmps : Array Value) (w : World) {g k m : Nat} {t u v : TypeId} {cs ds es : Array Value} {d e f : TypeDesc}
    (hp : tmps.getD p undef = .pointer (some ⟨g, 0, none⟩)) (hq : tmps.getD q undef = .pointer (some ⟨k, 0, none⟩)) (hr : tmps.getD r undef = .pointer (some ⟨m, 0, none⟩)) (hg : Blk w g t cs) (hk : Blk w k u ds) (hm : Blk w m v es)
    (hu : P.underlying tp = some d) (hd : d.isRow = true) (hi : (P.info? tp).map (·.size) = some cs.size) (hu2 : P.underlying tq = some e) (hd2 : e.isRow = true) (hi2 : (P.info? tq).map (·.size) = some ds.size)
    (hu3 : P.underlying tr = some f) (hd3 : f.isRow = true) (hi3 : (P.info? tr).map (·.size) = some es.size) :
    (results fn tmps).run P w = .ok (.tuple #[.agg cs, .agg ds, .agg es]) w := by
  have hp' : tmps[p]?.getD undef = .pointer (some ⟨g, 0, none⟩) := by simpa using hp
  have hq' : tmps[q]?.getD undef = .pointer (some ⟨k, 0, none⟩) := by simpa using hq
  have hr' : tmps[r]?.getD undef = .pointer (some ⟨m, 0, none⟩) := by simpa using hr
  simp only [results, h]
  simp [Sem.run_bind, Result.andThen, hp', hq', hr', asAddr, run_result hg hu hd hi, run_result hk hu2 hd2 hi2, run_result hm hu3 hd3 hi3]
theorem results_c4 {fn : Func} {p u x y : Tmp} {ty : TypeId} {P : Program} (h : fn.results = #[.cell p ty, .tmp u, .tmp x, .tmp y]) (tmps : Array Value) (w : World) (g : Nat) (t : TypeId) (cs : Array Value) (d : TypeDesc)
    (hp : tmps.getD p undef = .pointer (some ⟨g, 0, none⟩)) (hg : Blk w g t cs)
    (hd : (match d with | .struct _ | .array _ _ => true | _ => false) = true) (hu : P.underlying ty = some d) (hi : (P.info? ty).map (·.size) = some cs.size) :
    (results fn tmps).run P w = .ok (.tuple #[.agg cs, tmps.getD u undef, tmps.getD x undef, tmps.getD y undef]) w := by
  have hp' : tmps[p]?.getD undef = .pointer (some ⟨g, 0, none⟩) := by simpa using hp
  simp only [results, h]
  simp [Result.andThen, hp', asAddr, run_loadVar_row w g t ty cs (0, 0) d hg hu (by cases d <;> first | rfl | exact hd) hi]
end Go.Proofs.YtngioemeplllhaaDoor
