/- Trees of three bits as natural numbers: which of four ways is to go, and a tree when a way was touched. No program. -/
import Derived.Test.YtlimipjfdecbfaaDoorProg
import Derived.Lib.Hide
namespace Go.Proofs.YtlimipjfdecbfaaDoor
set_option linter.unusedVariables false
set_option linter.unusedSimpArgs false

/-- the way that is to go -/
def viN (t : Nat) : Nat := if t % 2 = 0 then t / 2 % 2 else 2 + t / 4
/-- the tree when the way was touched -/
def toN (t w : Nat) : Nat := if w = 0 then 3 + t / 4 * 4 else if w = 1 then 1 + t / 4 * 4 else if w = 2 then t / 2 % 2 * 2 + 4 else t / 2 % 2 * 2
theorem vi_lt {t : Nat} (h : t < 8) : viN t < 4 := by unfold viN; split <;> omega
theorem to_lt {t : Nat} (h : t < 8) (w : Nat) : toN t w < 8 := by
  unfold toN; split
  · omega
  split
  · omega
  split <;> omega
theorem eight {t : Nat} (h : t < 8) : t = 0 ∨ t = 1 ∨ t = 2 ∨ t = 3 ∨ t = 4 ∨ t = 5 ∨ t = 6 ∨ t = 7 := by omega
theorem four {t : Nat} (h : t < 4) : t = 0 ∨ t = 1 ∨ t = 2 ∨ t = 3 := by omega
/-- what is to go behind a touch is of the other pair -/
theorem vi_to {t w : Nat} (h : t < 8) (hw : w < 4) : viN (toN t w) / 2 = 1 - w / 2 := by
  rcases eight h with rfl | rfl | rfl | rfl | rfl | rfl | rfl | rfl <;> rcases four hw with rfl | rfl | rfl | rfl <;> rfl
theorem to_to {t w : Nat} (h : t < 8) (hw : w < 4) : toN (toN t w) w = toN t w := by
  rcases eight h with rfl | rfl | rfl | rfl | rfl | rfl | rfl | rfl <;> rcases four hw with rfl | rfl | rfl | rfl <;> rfl
/-- a touch of the one pair says nothing of the other one's turn -/
theorem vi_pair {t w o : Nat} (h : t < 8) (hw : w < 4) (ho : o < 2) : viN (toN (toN (toN t w) (o + w / 2 * 2)) w) = viN (toN t w) := by
  rcases eight h with rfl | rfl | rfl | rfl | rfl | rfl | rfl | rfl <;> rcases four hw with rfl | rfl | rfl | rfl <;> rcases (by omega : o = 0 ∨ o = 1) with rfl | rfl <;> rfl
/-- of a pair the place that was touched last (-1: none yet) isn't the one whose turn it is -/
def lastI (t : Nat) (a b : Int) : Prop := (a = -1 ∨ a = 1 - (t / 2 % 2 : Nat)) ∧ (b = -1 ∨ b = 3 - (t / 4 : Nat))
theorem last_0 {t : Nat} (h : t < 8) {a b : Int} (hl : lastI t a b) {w : Nat} (hw : w < 2) : lastI (toN t w) w b ∧ (viN (toN t w) = 2 ∨ viN (toN t w) = 3) ∧ (viN (toN t w) : Int) ≠ b := by
  obtain ⟨_, hb⟩ := hl
  unfold lastI
  rcases eight h with rfl | rfl | rfl | rfl | rfl | rfl | rfl | rfl <;> rcases (by omega : w = 0 ∨ w = 1) with rfl | rfl <;> simp [toN, viN] at hb ⊢ <;> omega
theorem last_1 {t : Nat} (h : t < 8) {a b : Int} (hl : lastI t a b) {w : Nat} (hw : w < 4) (hw2 : 2 ≤ w) : lastI (toN t w) a w ∧ (viN (toN t w) = 0 ∨ viN (toN t w) = 1) ∧ (viN (toN t w) : Int) ≠ a := by
  obtain ⟨hb, _⟩ := hl
  unfold lastI
  rcases eight h with rfl | rfl | rfl | rfl | rfl | rfl | rfl | rfl <;> rcases (by omega : w = 2 ∨ w = 3) with rfl | rfl <;> simp [toN, viN] at hb ⊢ <;> omega
theorem last_start (t : Nat) : lastI t (-1) (-1) := ⟨.inl rfl, .inl rfl⟩
/-- whoever goes is filled: the tree, the way, and who was filled, behind k of it -/
def trN (t : Nat) : Nat → Nat
  | 0 => t
  | k + 1 => toN (trN t k) (viN (trN t k))
def snB (t : Nat) : Nat → Nat → Bool
  | 0, _ => false
  | k + 1, j => if j = viN (trN t k) then true else snB t k j
theorem tr_lt {t : Nat} (h : t < 8) : ∀ k, trN t k < 8
  | 0 => h
  | k + 1 => to_lt (tr_lt h k) _
theorem tr_none (t : Nat) : trN t 0 = t := rfl
theorem sn_none (t : Nat) : snB t 0 = fun _ => false := rfl
theorem tr_next (t k : Nat) : trN t (k + 1) = toN (trN t k) (viN (trN t k)) := rfl
theorem sn_next (t k : Nat) : (fun j => if j = viN (trN t k) then true else snB t k j) = snB t (k + 1) := rfl
theorem tr_all {t : Nat} (h : t < 8) : trN t 4 = t := by
  rcases eight h with rfl | rfl | rfl | rfl | rfl | rfl | rfl | rfl <;> rfl
theorem sn_not {t k : Nat} (h : t < 8) (hk : k < 4) : snB t k (viN (trN t k)) = false := by
  rcases eight h with rfl | rfl | rfl | rfl | rfl | rfl | rfl | rfl <;> rcases four hk with rfl | rfl | rfl | rfl <;> rfl
theorem vi_val : viN 0 = 0 ∧ viN 3 = 2 ∧ viN 7 = 3 ∧ toN 0 0 = 3 ∧ toN 7 3 = 2 := ⟨rfl, rfl, rfl, rfl, rfl⟩
theorem vi_tab : viN 0 = 0 ∧ viN 1 = 2 ∧ viN 2 = 1 ∧ viN 3 = 2 ∧ viN 4 = 0 ∧ viN 5 = 3 ∧ viN 6 = 1 ∧ viN 7 = 3 := ⟨rfl, rfl, rfl, rfl, rfl, rfl, rfl, rfl⟩
theorem to_tab0 : toN 0 0 = 3 ∧ toN 1 0 = 3 ∧ toN 2 0 = 3 ∧ toN 3 0 = 3 ∧ toN 4 0 = 7 ∧ toN 5 0 = 7 ∧ toN 6 0 = 7 ∧ toN 7 0 = 7 := ⟨rfl, rfl, rfl, rfl, rfl, rfl, rfl, rfl⟩
theorem to_tab1 : toN 0 1 = 1 ∧ toN 1 1 = 1 ∧ toN 2 1 = 1 ∧ toN 3 1 = 1 ∧ toN 4 1 = 5 ∧ toN 5 1 = 5 ∧ toN 6 1 = 5 ∧ toN 7 1 = 5 := ⟨rfl, rfl, rfl, rfl, rfl, rfl, rfl, rfl⟩
theorem to_tab2 : toN 0 2 = 4 ∧ toN 1 2 = 4 ∧ toN 2 2 = 6 ∧ toN 3 2 = 6 ∧ toN 4 2 = 4 ∧ toN 5 2 = 4 ∧ toN 6 2 = 6 ∧ toN 7 2 = 6 := ⟨rfl, rfl, rfl, rfl, rfl, rfl, rfl, rfl⟩
theorem to_tab3 : toN 0 3 = 0 ∧ toN 1 3 = 0 ∧ toN 2 3 = 2 ∧ toN 3 3 = 2 ∧ toN 4 3 = 0 ∧ toN 5 3 = 0 ∧ toN 6 3 = 2 ∧ toN 7 3 = 2 := ⟨rfl, rfl, rfl, rfl, rfl, rfl, rfl, rfl⟩
attribute [irreducible] viN toN lastI trN snB
end Go.Proofs.YtlimipjfdecbfaaDoor
