/- Sets and slices of entries (api.Set, []api.Entry), as they come in; an element of a row that came in, loaded. -/
import Derived.Test.YtlhoedpencmikaaDoorOpen12
import Derived.Test.YtlhoedpencmikaaDoorGtwel
import Derived.Test.YtlhoedpencmikaaDoorGthir
import Derived.Test.YtlhoedpencmikaaDoorGagg
import Derived.Deep.Slices
import Derived.Deep.MidRow
namespace Go.Proofs.YtlhoedpencmikaaDoor
open Go.ChangeShapes Go.WideShapes Go.ChangeAt Go.RowKit Go.Joins Go.Deep
set_option linter.unusedVariables false
set_option linter.unusedSimpArgs false
set_option maxRecDepth 10000

/-! a row of entries -/
theorem rng_ext {w w' : World} {b o : Nat} {vs : List Value} (h : Ext w w') (k : w.rangeAt b o vs) : w'.rangeAt b o vs := fun j v hj => ext_cell h (k j v hj)
section
variable {P : Program} {ops : Array Oper} {rest : List Oper} {o : Oper} {a : Act} {w : World} {Q : Exit → Act → World → Prop}
theorem wpList_load_rng {g k : Nat} {ds : Array Value} {d : TypeDesc} (hw : Region.wanted o (yielded ops a.tmps) = true) (ty : TypeId) (x : Operand) (ho : o.op = .load ty x)
    (hx : a.eval x = .pointer (some ⟨g, k, none⟩)) (hb : w.rangeAt g k ds.toList) (hu : P.underlying ty = some d) (hd : d.isRow = true) (hi : (P.info? ty).map (·.size) = some ds.size)
    (h : wpList P ops Q rest (a.put o.dst (.agg ds)) w) : wpList P ops Q (o :: rest) a w :=
  wpList_step fun _ hK => by
    rw [if_pos hw]
    unfold Oper.wp execOp
    have hr := run_loadAt_mid (P := P) w g k ty ds.toList d hb hu hd (by simpa using hi)
    simp only [Array.toArray_toList] at hr
    simp only [ho, hx, Sem.run_bind, hr, Result.andThen_ok]
    exact hK _ _ h
end
section
variable {P : Program} {ops : Array Oper} {R : World → World → Prop} {Q : Exit → Act → World → Prop} {N : Act → World → Prop} {o : Oper} {r : List (Oper × Bool)} {a : Act} {w : World}
theorem seq_load_rng {ty : TypeId} {x : Operand} {g k : Nat} {ds : Array Value} {d : TypeDesc}
    (hop : o.op = .load ty x) (hx : a.eval x = .pointer (some ⟨g, k, none⟩)) (hb : ∀ w', R w w' → w'.rangeAt g k ds.toList)
    (hd : d.isRow = true) (hu : P.underlying ty = some d) (hi : (P.info? ty).map (·.size) = some ds.size) (hw : Region.wanted o (yielded ops a.tmps) = true)
    (k : ∀ K : Act → Prop, (∀ a', wpSeq P ops R Q N r a' w → K a') → K (a.put o.dst (.agg ds))) : wpSeq P ops R Q N ((o, false) :: r) a w :=
  seq_value (.agg ds) hw (fun w' hw' => by
    unfold execOp
    have hr := run_loadAt_mid (P := P) w' g _ ty ds.toList d (hb w' hw') hu hd (by simpa using hi)
    simp only [Array.toArray_toList] at hr
    simp only [hop, hx, Sem.run_bind, hr, Result.andThen_ok, Sem.run_pure]) k
end
/-- the slice value with that address reads as those entries -/
def EnS (w : World) (A : Option Addr) (L : List En) : Prop :=
  0 < L.length → ∃ b off, A = some ⟨b, off, none⟩ ∧ ∀ i, i < L.length → w.rangeAt b (off + i * 11) (enC (L.getD i e0)).toList
section
variable {H : Type} {enc : TypeId × Value → H}
theorem en_leaves {W : World} {base : Nat} {sp : Nat → Bool} {held : Bool} {l : List Value} (ha : All2 (fun c u => ∃ m y, DataW.trod enc Tryd.prog W base sp held m u [c] = some y) l [4, 25, 4, 3, 25, 25, 4, 4, 4, 4, 4]) :
    ∃ P : En, l = (enC P).toList ∧ P.ok := by
  match l, ha with
  | [c0, c1, c2, c3, c4, c5, c6, c7, c8, c9, c10], ha =>
  obtain ⟨⟨_, _, h0⟩, ⟨_, _, h1⟩, ⟨_, _, h2⟩, ⟨_, _, h3⟩, ⟨_, _, h4⟩, ⟨_, _, h5⟩, ⟨_, _, h6⟩, ⟨_, _, h7⟩, ⟨_, _, h8⟩, ⟨_, _, h9⟩, ⟨_, _, h10⟩, _⟩ := ha
  obtain ⟨z0, rfl⟩ := open_boolf Tryd.underlying4 h0
  obtain ⟨z1, rfl, w1⟩ := open_u64f Tryd.underlying25 h1
  obtain ⟨z2, rfl⟩ := open_boolf Tryd.underlying4 h2
  obtain ⟨z3, rfl, w3⟩ := open_intf Tryd.underlying3 h3
  obtain ⟨z4, rfl, w4⟩ := open_u64f Tryd.underlying25 h4
  obtain ⟨z5, rfl, w5⟩ := open_u64f Tryd.underlying25 h5
  obtain ⟨z6, rfl⟩ := open_boolf Tryd.underlying4 h6
  obtain ⟨z7, rfl⟩ := open_boolf Tryd.underlying4 h7
  obtain ⟨z8, rfl⟩ := open_boolf Tryd.underlying4 h8
  obtain ⟨z9, rfl⟩ := open_boolf Tryd.underlying4 h9
  obtain ⟨z10, rfl⟩ := open_boolf Tryd.underlying4 h10
  exact ⟨⟨z0, z1, z2, z3, z4, z5, ⟨z6, z7, z8, z9⟩, z10⟩, by simp only [enC_def, pmC_def]; rfl, ⟨w1, bounds_i64 w3, w4, w5, trivial⟩⟩
theorem mapM_at {α β : Type} {f : α → Option β} : ∀ {l : List α} {m : List β}, l.mapM f = some m → ∀ (j : Nat) (x : α), l[j]? = some x → ∃ y : β, f x = some y ∧ m[j]? = some y
  | [], m, h, j, x, hj => by simp at hj
  | b :: l, m, h, j, x, hj => by
    simp only [List.mapM_cons, Option.bind_eq_bind, Option.bind_eq_some_iff, Option.pure_def, Option.some.injEq] at h
    obtain ⟨y, hy, ys, hys, rfl⟩ := h
    cases j with
    | zero => simp at hj; subst hj; exact ⟨y, hy, by simp⟩
    | succ j => simpa using mapM_at hys j x (by simpa using hj)
theorem cells_rng {W : World} {base n b off : Nat} {cs : List Value} (h : W.cells? base ⟨b, off, none⟩ n = some cs) (hn : cs.length = n) : W.rangeAt b off cs := by
  unfold World.cells? at h
  split at h
  case isFalse => cases h
  case isTrue hb =>
  intro j v hj
  have hlt : j < n := by
    have := (List.getElem?_eq_some_iff.1 hj).1
    omega
  obtain ⟨y, hy, hm⟩ := mapM_at h j j (by simp [hlt])
  rw [hj] at hm
  rw [Addr.add_mid] at hy
  rw [hy]
  exact hm.symm
theorem open_ens {W : World} {b0 : Nat} {v : Value} {d : DataW H} {p : List MemPlace} (hv : Value.okWide Tryd.prog W .any b0 44 v) (h : DataW.Trod enc Tryd.prog W 0 (fun _ => true) true 44 v d p) :
    ∃ (A : Option Addr) (L : List En) (c : Nat), v = .slice A L.length c ∧ (∀ i, i < L.length → (L.getD i e0).ok) ∧ EnS W A L ∧ L.length ≤ c ∧ c ≤ 9223372036854775807 := by
  obtain ⟨a2, len2, cap2, rfl⟩ := okWide_slice Tryd.underlying44 hv
  obtain ⟨fuel, hf⟩ := h
  rcases open_slice Tryd.underlying44 hf with ⟨hcs, -⟩ | ⟨a, len, cap, m, n, D, Pl, hcs, -, hl, hm, hmm, -, hx⟩
  · simp [Value.cells] at hcs
    obtain ⟨rfl, rfl, rfl⟩ := hcs
    exact ⟨none, [], 0, rfl, fun i hi => absurd hi (by simp), fun hp => absurd hp (by simp), by simp, by omega⟩
  · simp [Value.cells] at hcs
    obtain ⟨rfl, rfl, rfl⟩ := hcs
    have hlm : len2 ≤ m := by rw [hmm]; split <;> omega
    have hc : Tryd.prog.cellsOf 52 = 11 := by kernel_rfl
    rw [hc] at hx
    have each : ∀ i, i < len2 → ∃ P : En, P.ok ∧ W.cells? 0 (a.add (i * 11)) 11 = some (enC P).toList := fun i hi => by
      obtain ⟨cs', h1, h2⟩ := hx i (by omega)
      obtain ⟨P, h3, h4⟩ := en_leaves (leaves_of_trod 6 52 _ _ _ _ (by kernel_rfl) h2)
      exact ⟨P, h4, by rw [h1, h3]⟩
    obtain ⟨f, hf⟩ : ∃ f : Nat → En, ∀ i, i < len2 → (f i).ok ∧ W.cells? 0 (a.add (i * 11)) 11 = some (enC (f i)).toList :=
      ⟨fun i => if h : i < len2 then Classical.choose (each i h) else e0, fun i hi => by simp only [dif_pos hi]; exact Classical.choose_spec (each i hi)⟩
    have hlen : ((List.range len2).map f).length = len2 := by simp
    have hget : ∀ i, i < len2 → ((List.range len2).map f).getD i e0 = f i := fun i hi => by simp [List.getD, hi]
    refine ⟨some a, (List.range len2).map f, cap2, by rw [hlen], fun i hi => ?_, fun hp => ?_, by rw [hlen]; exact hl, by unfold maxLen at hm; omega⟩
    · rw [hlen] at hi
      rw [hget i hi]
      exact (hf i hi).1
    · rw [hlen] at hp ⊢
      obtain ⟨b, off, spot⟩ := a
      have h0 := (hf 0 hp).2
      have hspot : spot = none := by
        unfold World.cells? at h0
        rw [if_pos (Nat.zero_le _)] at h0
        obtain ⟨y, hy, -⟩ := mapM_at h0 0 0 (by simp)
        simpa [Addr.add] using World.cell?_spot hy
      subst hspot
      refine ⟨b, off, rfl, fun i hi => ?_⟩
      have h1 := (hf i hi).2
      rw [Addr.add_mid] at h1
      rw [hget i hi]
      exact cells_rng h1 (by rw [Array.length_toList, enC_size])
end
theorem All2.split {α β : Type} {R : α → β → Prop} : ∀ {b c : List β} {l : List α}, All2 R l (b ++ c) → ∃ l1 l2, l = l1 ++ l2 ∧ All2 R l1 b ∧ All2 R l2 c
  | [], c, l, h => ⟨[], l, rfl, trivial, h⟩
  | x :: b, c, [], h => h.elim
  | x :: b, c, a :: l, h => by
    obtain ⟨l1, l2, h1, h2, h3⟩ := All2.split (b := b) (c := c) (l := l) h.2
    exact ⟨a :: l1, l2, by rw [h1]; rfl, ⟨h.1, h2⟩, h3⟩
section
variable {H : Type} {enc : TypeId × Value → H}
theorem open_st {W : World} {b0 : Nat} {v : Value} {d : DataW H} {p : List MemPlace} (hv : Value.okWide Tryd.prog W .any b0 55 v) (h : DataW.Trod enc Tryd.prog W 0 (fun _ => true) true 55 v d p) :
    ∃ P : St, v = .agg (stC P) ∧ P.ok := by
  obtain ⟨l, rfl, ha⟩ := open_plain (ls := [4, 25, 4, 3, 25, 25, 4, 4, 4, 4, 4] ++ ([4, 25, 4, 3, 25, 25, 4, 4, 4, 4, 4] ++ ([4, 25, 4, 3, 25, 25, 4, 4, 4, 4, 4] ++ ([4, 25, 4, 3, 25, 25, 4, 4, 4, 4, 4] ++ [5])))) 6 Tryd.underlying55 (by kernel_rfl) hv h
  obtain ⟨l1, r1, rfl, h1, ha1⟩ := ha.split
  obtain ⟨l2, r2, rfl, h2, ha2⟩ := ha1.split
  obtain ⟨l3, r3, rfl, h3, ha3⟩ := ha2.split
  obtain ⟨l4, r4, rfl, h4, ha4⟩ := ha3.split
  clear ha ha1 ha2 ha3
  obtain ⟨A, rfl, oa⟩ := en_leaves h1
  obtain ⟨B, rfl, ob⟩ := en_leaves h2
  obtain ⟨C, rfl, oc⟩ := en_leaves h3
  obtain ⟨D, rfl, od⟩ := en_leaves h4
  match r4, ha4 with
  | [c0], ha =>
  obtain ⟨⟨_, _, h0⟩, _⟩ := ha
  obtain ⟨z, rfl, w0⟩ := open_intf Tryd.underlying5 h0
  have hz := bounds_u8 w0
  obtain ⟨n, rfl⟩ := Int.eq_ofNat_of_zero_le (show 0 ≤ z by omega)
  refine ⟨⟨⟨A, B, C, D⟩, n⟩, ?_, ⟨⟨oa, ob, oc, od⟩, by show n < 256; omega⟩⟩
  congr 1
  apply Array.toList_inj.1
  simp [stC_eq, wsC_eq]
end
end Go.Proofs.YtlhoedpencmikaaDoor
