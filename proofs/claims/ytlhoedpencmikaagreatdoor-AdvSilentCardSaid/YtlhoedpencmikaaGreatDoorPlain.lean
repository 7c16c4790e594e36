/- Plain data that came in (numbers, bools, strings, structs and arrays of these, nested): cell by cell, each of its own type. -/
import Derived.Test.YtlhoedpencmikaaGreatDoorGagg
import Derived.Test.YtlhoedpencmikaaGreatDoorLaid
namespace Go.Proofs.YtlhoedpencmikaaGreatDoor
open Go.ChangeShapes Go.WideShapes Go.ChangeAt Go.RowKit Go.Joins Go.Deep
set_option linter.unusedVariables false
set_option linter.unusedSimpArgs false

/-- the types of its cells, in order -/
def leavesOf (P : Program) : Nat → TypeId → Option (List TypeId)
  | 0, _ => none
  | n + 1, t => match P.underlying t with
    | some .bool => some [t]
    | some (.int _) => some [t]
    | some .string => some [t]
    | some (.array m e) => if P.cellsOf t == m * P.cellsOf e then ((List.range m).mapM fun _ => leavesOf P n e).map List.flatten else none
    | some (.struct fs) => if runsB P (P.cellsOf t) 0 fs.toList then (fs.toList.mapM fun f => leavesOf P n f.type).map List.flatten else none
    | _ => none
/-- two lists of one length, related place by place -/
def All2 {α β : Type} (R : α → β → Prop) : List α → List β → Prop
  | [], [] => True
  | a :: l, b :: m => R a b ∧ All2 R l m
  | _, _ => False
theorem All2.append {α β : Type} {R : α → β → Prop} : ∀ {a : List α} {b : List β} {c : List α} {d : List β}, All2 R a b → All2 R c d → All2 R (a ++ c) (b ++ d)
  | [], [], _, _, _, h => h
  | _ :: a, _ :: b, _, _, h, k => ⟨h.1, All2.append (a := a) (b := b) h.2 k⟩
  | [], _ :: _, _, _, h, _ => h.elim
  | _ :: _, [], _, _, h, _ => h.elim
theorem mapM_all2 {ι H β : Type} {R : Value → β → Prop} (f : ι → Option (DataW H × List MemPlace)) (g : ι → Option (List β)) (c : ι → List Value) :
    ∀ (l : List ι) (xs : List (DataW H × List MemPlace)) (ls : List (List β)), (∀ i, i ∈ l → ∀ y m, f i = some y → g i = some m → All2 R (c i) m) → l.mapM f = some xs → l.mapM g = some ls → All2 R (l.flatMap c) ls.flatten
  | [], xs, ls, h, hx, hy => by simp at hy; subst hy; simp [All2]
  | i :: l, xs, ls, h, hx, hy => by
    simp only [List.mapM_cons, Option.bind_eq_bind, Option.bind_eq_some_iff, Option.pure_def, Option.some.injEq] at hx hy
    obtain ⟨y, hy1, ys, hys, rfl⟩ := hx
    obtain ⟨m, hm1, ms, hms, rfl⟩ := hy
    rw [List.flatMap_cons, List.flatten_cons]
    exact All2.append (h i (by simp) y m hy1 hm1) (mapM_all2 f g c l ys ms (fun j hj => h j (by simp [hj])) hys hms)
section
variable {H : Type} {enc : TypeId × Value → H} {P : Program} {w : World} {base : Nat} {sp : Nat → Bool} {held : Bool}
theorem leaves_of_trod : ∀ (n : Nat) (t : TypeId) (fuel : Nat) (cs : List Value) (x : DataW H × List MemPlace) (ls : List TypeId), leavesOf P n t = some ls →
    DataW.trod enc P w base sp held fuel t cs = some x → All2 (fun c u => ∃ m y, DataW.trod enc P w base sp held m u [c] = some y) cs ls
  | 0, _, _, _, _, _, ht, _ => by simp [leavesOf] at ht
  | n + 1, t, 0, cs, x, ls, ht, h => by simp [DataW.trod] at h
  | n + 1, t, fuel + 1, cs, x, ls, ht, h => by
    have h0 := h
    unfold leavesOf at ht
    unfold DataW.trod at h
    cases hu : P.underlying t with
    | none => rw [hu] at ht; simp at ht
    | some u =>
      rw [hu] at ht h
      cases u <;> simp only [reduceCtorEq] at ht
      case bool =>
        obtain rfl := Option.some.inj ht
        obtain ⟨b, rfl, -⟩ := DataW.trod_bool hu h0
        exact ⟨⟨_, _, h0⟩, trivial⟩
      case int k =>
        obtain rfl := Option.some.inj ht
        obtain ⟨b, rfl, -⟩ := DataW.trod_int hu h0
        exact ⟨⟨_, _, h0⟩, trivial⟩
      case string =>
        obtain rfl := Option.some.inj ht
        have h1 : ∃ c, cs = [c] := by
          split at h <;> simp_all
        obtain ⟨c, rfl⟩ := h1
        exact ⟨⟨_, _, h0⟩, trivial⟩
      case array m e =>
        split at ht
        case isFalse => cases ht
        case isTrue hc =>
        simp only [beq_iff_eq] at hc
        simp only at h
        split at h
        case isFalse => cases h
        case isTrue hl =>
        obtain ⟨xs, hm, hx⟩ := Option.map_eq_some_iff.1 h
        obtain ⟨ms, hm2, hx2⟩ := Option.map_eq_some_iff.1 ht
        have h1 := mapM_all2 _ _ (fun i => (cs.drop (i * P.cellsOf e)).take (P.cellsOf e)) _ _ _ (fun i _ y k hy hk => leaves_of_trod n e fuel _ y k hk hy) hm hm2
        rw [chunks_take, ← hc, ← hl, List.take_length, hx2] at h1
        exact h1
      case struct fs =>
        split at ht
        case isFalse => cases ht
        case isTrue hc =>
        simp only at h
        split at h
        case isFalse => cases h
        case isTrue hl =>
        obtain ⟨xs, hm, hx⟩ := Option.map_eq_some_iff.1 h
        obtain ⟨ms, hm2, hx2⟩ := Option.map_eq_some_iff.1 ht
        have h1 := mapM_all2 _ _ (fun f => (cs.drop f.offset).take (P.cellsOf f.type)) _ _ _ (fun f _ y k hy hk => leaves_of_trod n f.type fuel _ y k hk hy) hm hm2
        rw [(runs_take cs _ _ hc).2, Nat.sub_zero, List.drop_zero, ← hl, List.take_length, hx2] at h1
        exact h1
end
end Go.Proofs.YtlhoedpencmikaaGreatDoor
