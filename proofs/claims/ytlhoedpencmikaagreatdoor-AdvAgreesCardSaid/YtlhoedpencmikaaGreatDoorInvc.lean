/- Regions in whatever order, further: parts loaded, what hangs on the call that tells, three boxes. -/
import Derived.Test.YtlhoedpencmikaaGreatDoorInvb
namespace Go.Proofs.YtlhoedpencmikaaGreatDoor
open Go.ChangeShapes Go.WideShapes Go.ChangeAt Go.RowKit
set_option linter.unusedVariables false
set_option linter.unusedSimpArgs false

theorem op_load_part {P : Program} {o : Oper} {A : Act} {w : World} {N : Act → World → Prop} {Q : Exit → Act → World → Prop} {ty t : TypeId} {x : Operand} {g k : Nat} {cs ds : Array Value} {d : TypeDesc}
    (hop : o.op = .load ty x) (hx : A.eval x = .pointer (some ⟨g, k, none⟩)) (hb : Blk w g t cs) (he : cs.extract k (k + ds.size) = ds) (hd : d.isRow = true) (hu : P.underlying ty = some d) (hi : (P.info? ty).map (·.size) = some ds.size)
    (kk : N (A.put o.dst (.agg ds)) w) : o.wp P A w N Q :=
  op_value (.agg ds) (by
    unfold execOp
    simp only [hop, hx, Sem.run_bind, run_load_part ty hb he hu hd hi, Result.andThen_ok, Sem.run_pure]) kk
theorem op_nil {P : Program} {o : Oper} {A : Act} {w : World} {N : Act → World → Prop} {Q : Exit → Act → World → Prop} {x : Operand} {p : Addr} (hop : o.op = .nilCheck x) (hx : A.eval x = .pointer (some p)) (k : N (A.put o.dst (.pointer (some p))) w) : o.wp P A w N Q :=
  op_value (.pointer (some p)) (by
    unfold execOp
    simp only [hop, hx]
    simp [go_sem]) k
theorem args2 {A : Act} {x y : Operand} {u v : Value} (h1 : A.eval x = u) (h2 : A.eval y = v) : [x, y].map A.eval = [u, v] := by simp [h1, h2]
theorem three_boxes {Y : Type} {b1 b2 b3 : Bx Y} {p : Nat → Bx Y → Prop} (h1 : p 0 b1) (h2 : p 1 b2) (h3 : p 2 b3) : ∀ (i : Nat) (b : Bx Y), ([b1, b2, b3] : List (Bx Y))[i]? = some b → p i b
  | 0, b, h => by obtain rfl := Option.some.inj h; exact h1
  | 1, b, h => by obtain rfl := Option.some.inj h; exact h2
  | 2, b, h => by obtain rfl := Option.some.inj h; exact h3
  | n + 3, b, h => by simp at h
/-- the operations of D come up behind the call c -/
def Dep (D : List Nat) (c : Nat) (bs : List Bool) : Prop := ∀ j ∈ D, bs[j]? = some true → bs[c]? = some true
theorem Dep.start (D : List Nat) (c n : Nat) : Dep D c (List.replicate n false) := fun j _ h => absurd h not_yet
theorem Dep.set {D : List Nat} {c k : Nat} {bs : List Bool} (h : Dep D c bs) (hc : c < bs.length) (hk : k ∈ D → bs[c]? = some true) : Dep D c (bs.set k true) := fun j hj ht => by
  by_cases e : k = c
  · subst e; rw [List.getElem?_set_self hc]
  · rw [set_ne e]
    rcases set_true ht with rfl | h2
    · exact hk hj
    · exact h j hj h2
theorem hs_set {α : Type} {us vs : List α} {k : Nat} {v : α} {bs : List Bool} (h : us = vs.set k v) (hb : bs[k]? = some false) : ∀ j : Nat, bs[j]? = some true → us[j]? = vs[j]? := by
  subst h
  intro j hj
  exact List.getElem?_set_ne (by rintro rfl; rw [hb] at hj; cases hj)
theorem hs_sets {α : Type} {us vs : List α} {D : List Nat} {c : Nat} {bs : List Bool} (h : ∀ j, j ∉ c :: D → us[j]? = vs[j]?) (hb : bs[c]? = some false) (hd : Dep D c bs) : ∀ j : Nat, bs[j]? = some true → us[j]? = vs[j]? := by
  intro j hj
  refine h j fun hm => ?_
  rcases List.mem_cons.1 hm with rfl | hm
  · rw [hb] at hj; cases hj
  · have := hd j hm hj
    rw [hb] at this; cases this
theorem results_tc {fn : Func} {p u : Tmp} {ty : TypeId} {P : Program} (h : fn.results = #[.tmp u, .cell p ty]) (tmps : Array Value) (w : World) {g : Nat} {t : TypeId} {cs : Array Value} {d : TypeDesc}
    (hp : tmps.getD p undef = .pointer (some ⟨g, 0, none⟩)) (hg : Blk w g t cs) (hu : P.underlying ty = some d) (hd : d.isRow = true) (hi : (P.info? ty).map (·.size) = some cs.size) :
    (results fn tmps).run P w = .ok (.tuple #[tmps.getD u undef, .agg cs]) w := by
  have hp' : tmps[p]?.getD undef = .pointer (some ⟨g, 0, none⟩) := by simpa using hp
  simp only [results, h]
  simp [Result.andThen, hp', asAddr, run_result hg hu hd hi]
end Go.Proofs.YtlhoedpencmikaaGreatDoor
