/- A package-level variable that is laid as plain data (numbers, bools, strings, arrays of arrays of these): its block, whole. -/
import Derived.Test.YtcllbidhjggjiaaDoorGagg
import Derived.LaidLaws
import Derived.ChangeArms
import Derived.Lib.LaidTab
namespace Go.Proofs.YtcllbidhjggjiaaDoor
open Go.ChangeShapes Go.WideShapes Go.RowKit
set_option linter.unusedVariables false
set_option linter.unusedSimpArgs false

mutual
/-- the cells that such a datum takes -/
def flatD : DataW Unit → List Value
  | .lit (.bool b) => [.bool b]
  | .lit (.int k n) => [.int k n]
  | .lit (.string l) => [.string ⟨l.toArray⟩]
  | .agg l => flatDs l
  | _ => []
def flatDs : List (DataW Unit) → List Value
  | [] => []
  | d :: r => flatD d ++ flatDs r
end
/-- fields that stand one behind the other, from off to tot -/
def runsB (P : Program) (tot : Nat) : Nat → List Field → Bool
  | off, [] => off == tot
  | off, f :: r => (f.offset == off) && runsB P tot (off + P.cellsOf f.type) r
/-- of types of these alone; arrays take as many cells as their elements do -/
def tileB (P : Program) : Nat → TypeId → Bool
  | 0, _ => false
  | n + 1, t => match P.underlying t with
    | some .bool => true
    | some (.int _) => true
    | some .string => true
    | some (.array m e) => (P.cellsOf t == m * P.cellsOf e) && tileB P n e
    | some (.struct fs) => (fs.toList.all fun f => tileB P n f.type) && runsB P (P.cellsOf t) 0 fs.toList
    | _ => false
theorem runs_take {P : Program} {tot : Nat} (cs : List Value) : ∀ (l : List Field) (off : Nat), runsB P tot off l = true → off ≤ tot ∧ (l.flatMap fun f => (cs.drop f.offset).take (P.cellsOf f.type)) = (cs.drop off).take (tot - off)
  | [], off, h => by
    have h1 : off = tot := by simpa [runsB] using h
    subst h1
    exact ⟨Nat.le_refl _, by simp⟩
  | f :: r, off, h => by
    simp only [runsB, Bool.and_eq_true, beq_iff_eq] at h
    obtain ⟨h1, h2⟩ := runs_take cs r _ h.2
    refine ⟨by omega, ?_⟩
    rw [List.flatMap_cons, h2, h.1, show tot - off = P.cellsOf f.type + (tot - (off + P.cellsOf f.type)) by omega, List.take_add, List.drop_drop]
theorem chunks_take {α : Type} (cs : List α) (c : Nat) : ∀ m : Nat, ((List.range m).flatMap fun i => (cs.drop (i * c)).take c) = cs.take (m * c)
  | 0 => by simp
  | m + 1 => by
    rw [List.range_succ, List.flatMap_append, chunks_take cs c m, Nat.succ_mul, List.take_add]
    simp
theorem mapM_flat {ι : Type} (f : ι → Option (DataW Unit × List MemPlace)) (c : ι → List Value) :
    ∀ (l : List ι) (xs : List (DataW Unit × List MemPlace)), (∀ i, i ∈ l → ∀ y, f i = some y → c i = flatD y.1) → l.mapM f = some xs → l.flatMap c = flatDs (xs.map (·.1))
  | [], xs, h, hx => by simp at hx; subst hx; simp [flatDs]
  | i :: l, xs, h, hx => by
    simp only [List.mapM_cons, Option.bind_eq_bind, Option.bind_eq_some_iff, Option.pure_def, Option.some.injEq] at hx
    obtain ⟨y, hy, ys, hys, rfl⟩ := hx
    rw [List.flatMap_cons, h i (by simp) y hy, mapM_flat f c l ys (fun j hj => h j (by simp [hj])) hys]
    simp [flatDs]
theorem flat_of_trod {P : Program} {w : World} {base : Nat} {sp : Nat → Bool} {held : Bool} : ∀ (n : Nat) (t : TypeId) (fuel : Nat) (cs : List Value) (d : DataW Unit) (p : List MemPlace), tileB P n t = true →
    DataW.trod (fun _ => ()) P w base sp held fuel t cs = some (d, p) → cs = flatD d
  | 0, _, _, _, _, _, ht, _ => by simp [tileB] at ht
  | n + 1, t, 0, cs, d, p, ht, h => by simp [DataW.trod] at h
  | n + 1, t, fuel + 1, cs, d, p, ht, h => by
    unfold tileB at ht
    unfold DataW.trod at h
    cases hu : P.underlying t with
    | none => rw [hu] at ht; simp at ht
    | some u =>
      rw [hu] at ht h
      cases u <;> simp only [Bool.false_eq_true] at ht
      case bool =>
        split at h <;> simp_all []
        (obtain ⟨rfl, rfl⟩ := h; simp [flatD])
      case int k =>
        split at h <;> simp_all []
        all_goals (obtain ⟨_, rfl, rfl⟩ := h; simp_all [flatD])
      case string =>
        split at h <;> simp_all []
        all_goals (obtain ⟨_, rfl, rfl⟩ := h; simp_all [flatD])
      case array m e =>
        simp only [Bool.and_eq_true, beq_iff_eq] at ht
        simp only at h
        split at h
        case isFalse => cases h
        case isTrue hl =>
        obtain ⟨xs, hm, hx⟩ := Option.map_eq_some_iff.1 h
        obtain ⟨rfl, rfl⟩ := Prod.mk.inj hx
        have h1 := mapM_flat _ (fun i => (cs.drop (i * P.cellsOf e)).take (P.cellsOf e)) _ _ (fun i _ y hy => flat_of_trod n e fuel _ y.1 y.2 ht.2 hy) hm
        rw [chunks_take, ← ht.1, ← hl, List.take_length] at h1
        rw [h1]
        simp [flatD]
      case struct fs =>
        simp only [Bool.and_eq_true, List.all_eq_true] at ht
        simp only at h
        split at h
        case isFalse => cases h
        case isTrue hl =>
        obtain ⟨xs, hm, hx⟩ := Option.map_eq_some_iff.1 h
        obtain ⟨rfl, rfl⟩ := Prod.mk.inj hx
        have h1 := mapM_flat _ (fun f => (cs.drop f.offset).take (P.cellsOf f.type)) _ _ (fun f hf y hy => flat_of_trod n f.type fuel _ y.1 y.2 (ht.1 f hf) hy) hm
        rw [(runs_take cs _ _ ht.2).2, Nat.sub_zero, List.drop_zero, ← hl, List.take_length] at h1
        rw [h1]
        simp [flatD]
theorem laidVars_at {P : Program} {w : World} : ∀ {l : List (String × DataW Unit)} {ps : List MemPlace}, DataW.LaidVars P w l ps → ∀ {name : String} {d : DataW Unit}, (name, d) ∈ l →
    ∃ g t cs fuel p, P.globalNamed name = some g ∧ (P.globals[g]?).map (·.type) = some t ∧ w.var? P name = some cs ∧ DataW.trod (fun _ => ()) P w 0 (fun _ => true) false fuel t cs.toList = some (d, p) ∧ ∀ x ∈ MemPlace.row ⟨g, 0, none⟩ cs.size, x ∈ ps
  | [], _, _, _, _, hm => by simp at hm
  | (n, e) :: r, ps, h, name, d, hm => by
    obtain ⟨g, t, cs, fuel, p, q, h1, h2, h3, h4, h5, rfl⟩ := h
    rcases List.mem_cons.1 hm with he | hm
    · obtain ⟨rfl, rfl⟩ := Prod.mk.inj he
      exact ⟨g, t, cs, fuel, p, h1, h2, h3, h4, fun x hx => by simp [hx]⟩
    · obtain ⟨g', t', cs', fuel', p', a1, a2, a3, a4, a5⟩ := laidVars_at h5 hm
      exact ⟨g', t', cs', fuel', p', a1, a2, a3, a4, fun x hx => by simp [a5 x hx]⟩
/-- the variable's block holds those cells -/
def Vr (w : World) (g : Nat) (cs : Array Value) : Prop := ∃ t, Blk w g t cs
theorem Vr.ext {w w' : World} {g : Nat} {cs : Array Value} (h : Vr w g cs) (hE : Ext w w') : Vr w' g cs := h.imp fun _ h => h.ext hE
theorem Vr.cell {w : World} {g : Nat} {cs : Array Value} (h : Vr w g cs) (i : Nat) : w.cell? ⟨g, i, none⟩ = cs[i]? := h.elim fun _ h => h.cell i
theorem laid_at {P : Program} {W : World} {l : List (String × DataW Unit)} (h : laidMet P l W) {name : String} {d : DataW Unit} (hm : (name, d) ∈ l) {g : Nat} {t : TypeId} (n : Nat) (hg : P.globalNamed name = some g)
    (hty : (P.globals[g]?).map (·.type) = some t) (ht : tileB P n t = true) (hne : flatD d ≠ []) : Vr W g (flatD d).toArray := by
  obtain ⟨ps, hv, _, hr⟩ := h
  obtain ⟨g', t', cs, fuel, p, h1, h2, h3, h4, h5⟩ := laidVars_at hv hm
  obtain rfl := Option.some.inj (hg.symm.trans h1)
  obtain rfl := Option.some.inj (hty.symm.trans h2)
  have hc := flat_of_trod n t fuel cs.toList d p ht h4
  have hcs : cs = (flatD d).toArray := by rw [← hc]
  have hpos : 0 < cs.size := by
    rcases Nat.eq_zero_or_pos cs.size with h0 | h0
    · exact absurd (by rw [← hc]; simpa using h0) hne
    · exact h0
  have hin : MemPlace.cell g 0 ∈ MemPlace.row ⟨g, 0, none⟩ cs.size := by
    simp [MemPlace.row]
    (exact hpos)
  obtain ⟨⟨c, t', hh⟩, _⟩ := hr g 0 (h5 _ hin)
  refine ⟨t', ?_⟩
  unfold Blk
  simp only [World.var?, hg, Option.bind_some, hh] at h3
  rw [hh, Option.some.inj h3, hcs]
end Go.Proofs.YtcllbidhjggjiaaDoor
