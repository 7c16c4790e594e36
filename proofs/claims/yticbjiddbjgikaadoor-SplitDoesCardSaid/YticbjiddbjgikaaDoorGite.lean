/- A round of a range over a function: its regions are walked as anywhere (the plain walks of a list, or in an order of our choice). -/
import Derived.Test.YticbjiddbjgikaaDoorGflo
import Derived.RangeFuncNested
import Derived.RangeFuncBound
import Derived.RangeFuncCalls
import Derived.RangeFuncLeaves
import Derived.RangeFuncBox
import Derived.OwnWalkIn
import Derived.TacticsInMore
import Derived.LoopNIn
import Derived.LoopIn
import Derived.OrdersIn
import Derived.Maps.AppendAt
import Derived.ScopeJumps
import Derived.WalkMore
namespace Go.Proofs.YticbjiddbjgikaaDoor
open Go.RowKit
set_option linter.unusedVariables false
set_option linter.unusedSimpArgs false

/-- a round in which nothing is forbidden -/
abbrev RF (l : Nat) : Fence := Fence.wide.inRound l
/-! what a turn of a block that is no cells leaves -/
def Turn (B : Nat) (W W' : World) : Prop := ∃ row, W.grownBy W' row ∧ ∀ r, row = some r → B ≤ r ∧ ∃ o : Obj, W.heap[r]? = some o ∧ o.isCells = false
theorem Turn.blk {B : Nat} {W W' : World} (h : Turn B W W') {g : Nat} {t : TypeId} {cs : Array Value} (hb : Blk W g t cs) : Blk W' g t cs := by
  obtain ⟨row, hg, hr⟩ := h
  refine grw_blk hg hb fun e => ?_
  obtain ⟨-, o, ho, hc⟩ := hr g e
  unfold Blk at hb
  rw [hb] at ho
  injection ho with ho
  subst ho
  cases hc
theorem Turn.own {B : Nat} {W W' : World} (h : Turn B W W') {base sz n : Nat} {e : TypeId} {v : Value} {xs : List Value} (ho : W.ownsRow base e sz v n xs) : W'.ownsRow base e sz v n xs := by
  refine ⟨ho.1, ?_⟩
  rcases ho.2 with h0 | ⟨g, cap, cur, hv, hbg, hh, h3⟩
  · exact .inl h0
  · exact .inr ⟨g, cap, cur, hv, hbg, h.blk (t := e) hh, h3⟩
theorem Turn.ext {B : Nat} {w W W' : World} (h : Turn B W W') (hE : Ext w W) (hB : w.heap.size ≤ B) : Ext w W' := by
  obtain ⟨row, hg, hr⟩ := h
  exact Below.grown hE hg hE.size fun k e => Nat.le_trans hB (hr k e).1
theorem Turn.below {B n0 : Nat} {W W' : World} (h : Turn B W W') (hB : n0 ≤ B) (hz : n0 ≤ W.heap.size) : Below n0 W W' := by
  obtain ⟨row, hg, hr⟩ := h
  exact Below.grown (Below.refl _ _) hg hz fun k e => Nat.le_trans hB (hr k e).1
theorem turn_put {B : Nat} {W : World} {l : Nat} {o : Obj} (o' : Obj) (hB : B ≤ l) (hl : W.heap[l]? = some o) (ho : o.isCells = false) : Turn B W (W.putObj l o') :=
  ⟨some l, grownBy_putObj' W l o', fun r e => by cases e; exact ⟨hB, o, hl, ho⟩⟩
/-- nothing but a row's own block and one block more is written -/
def Sto (vb : Option Nat) (g : Nat) (x y : World) : Prop := x.heap.size ≤ y.heap.size ∧ ∀ k, k < x.heap.size → k ≠ g → vb ≠ some k → y.heap[k]? = x.heap[k]?
theorem Sto.refl (vb : Option Nat) (g : Nat) (x : World) : Sto vb g x x := ⟨Nat.le_refl _, fun _ _ _ _ => rfl⟩
theorem Sto.trans {vb : Option Nat} {g : Nat} {x y z : World} (h : Sto vb g x y) (k : Sto vb g y z) : Sto vb g x z := ⟨Nat.le_trans h.1 k.1, fun i hi h1 h2 => (k.2 i (Nat.lt_of_lt_of_le hi h.1) h1 h2).trans (h.2 i hi h1 h2)⟩
theorem Sto.ext {vb : Option Nat} {g : Nat} {x y : World} (h : Ext x y) : Sto vb g x y := ⟨h.size, fun k hk _ _ => h.block k hk⟩
theorem Sto.grown {vb : Option Nat} {g : Nat} {x y : World} (h : x.grownBy y vb) : Sto vb g x y := ⟨h.size, fun k hk _ hn => h.block k hk fun e => hn e.symm⟩
theorem Sto.row {vb : Option Nat} (g : Nat) (x : World) (cs : Array Value) : Sto vb g x (x.setRow g cs) := ⟨by rw [size_setRow]; exact Nat.le_refl _, fun k _ hk _ => setRow_other _ _ _ _ hk⟩
theorem Sto.blk {vb : Option Nat} {g : Nat} {x y : World} (h : Sto vb g x y) {k : Nat} {t : TypeId} {cs : Array Value} (hb : Blk x k t cs) (h1 : k ≠ g) (h2 : vb ≠ some k) : Blk y k t cs := (h.2 k hb.lt h1 h2).trans hb
end Go.Proofs.YticbjiddbjgikaaDoor
/- A region in which a load of a box comes up at whatever time beside calls that leave the box: one walk, in which the load's slot may hold whatever it likes until the calls are over. -/
namespace Go.Proofs.YticbjiddbjgikaaDoor
open Go.RowKit
set_option linter.unusedVariables false
set_option linter.unusedSimpArgs false

section
variable (P : Program) (l : List Oper) (Q : Exit → Act → World → Prop) (R : World → World → Prop) (I : Act → World → Prop) (s : Nat) (v : Value) (σ rest : List (Nat × Bool))
/-- the walk: each call behind its reads; σ: the last reads; the load's slot is s, what it loads v; I: the box holds it -/
def loadB : List (List (Nat × Bool) × Nat) → Act → World → Prop
  | [], a, w => ∀ x, wpSeq P l.toArray R (Calm Q) (fun a1 v1 => I a1 v1 ∧ a1.tmps[s]? = some x ∧ wpSeq P l.toArray R (Calm Q) (Q .normal) (rest.map fun p => (nth l p.1, p.2)) (a1.put (some s) v) v1) (σ.map fun p => (nth l p.1, p.2)) (a.put (some s) x) w
  | (ρ, i) :: π, a, w => ∀ x, wpSeq P l.toArray R (Calm Q) (fun a1 v1 => I a1 v1 ∧ a1.tmps[s]? = some x ∧ ∀ y, wpSeq P l.toArray R (Calm Q) (fun a2 w3 => I a2 w3 ∧ a2.tmps[s]? = some y ∧ loadB π a2 w3) [(nth l i, true)] (a1.put (some s) y) v1)
      (ρ.map fun p => (nth l p.1, p.2)) (a.put (some s) x) w
/-- the tree: the load's number is below the calls' -/
def combL (j : Nat) : List (List (Nat × Bool) × Nat) → Plan
  | [] => .last (σ ++ ((j, true) :: rest))
  | (ρ, i) :: π => .fork ρ j (.last ((i, true) :: flatF σ rest π)) i (combL j π)
end
section
variable {P : Program} {l : List Oper} {Q : Exit → Act → World → Prop} {R : World → World → Prop} {I : Act → World → Prop} {s : Nat} {v : Value} {σ rest : List (Nat × Bool)}
theorem load_done : ∀ (π : List (List (Nat × Bool) × Nat)) (a : Act) (w : World), loadB P l Q R I s v σ rest π a w → wpSeq P l.toArray R (Calm Q) (Q .normal) ((flatF σ rest π).map fun p => (nth l p.1, p.2)) (a.put (some s) v) w
  | [], a, w, h => by
    have h1 := h v
    simp only [flatF, List.map_append]
    refine seq_app _ _ _ _ (seq_mono (fun a1 v1 hn => ?_) _ _ _ h1)
    obtain ⟨-, hs, hk⟩ := hn
    rwa [put_self hs] at hk
  | (ρ, i) :: π, a, w, h => by
    have h1 := h v
    simp only [flatF, List.map_append]
    refine seq_app _ _ _ _ (seq_mono (fun a1 v1 hn => ?_) _ _ _ h1)
    obtain ⟨-, hs, hk⟩ := hn
    have h2 := hk v
    rw [put_self hs] at h2
    rw [List.map_cons]
    refine seq_app (π := [(nth l i, true)]) _ _ _ (seq_mono (fun a2 w3 hn => ?_) _ _ _ h2)
    obtain ⟨-, hs3, hf⟩ := hn
    have := load_done π a2 w3 hf
    rwa [put_self hs3] at this
theorem load_comb {j : Nat} (hr0 : ∀ x, R x x) (hal : ∀ a w, I a w → (execOp (Act.eval a) (nth l j)).run P w = .ok (.value v) w) (hw : ∀ ys, Region.wanted (nth l j) ys = true) (hd : (nth l j).dst = some s) :
    ∀ (π : List (List (Nat × Bool) × Nat)) (a : Act) (w : World), loadB P l Q R I s v σ rest π a w → (combL σ rest j π).wp P l R Q a w
  | [], a, w, h => by
    simp only [combL, Plan.wp, List.map_append, List.map_cons]
    obtain ⟨x, hx⟩ := put_self' a s
    have h1 := h x
    rw [hx] at h1
    refine seq_app _ _ _ _ (seq_mono (fun a1 v1 hn => ?_) _ _ _ h1)
    obtain ⟨hI, hs, hk⟩ := hn
    refine seq_run v v1 (hw _) (hal a1 v1 hI) (hr0 _) ?_
    intro K hK
    rw [hd]
    exact hK _ _ hk
  | (ρ, i) :: π, a, w, h => by
    simp only [combL, Plan.wp]
    obtain ⟨x, hx⟩ := put_self' a s
    have h1 := h x
    rw [hx] at h1
    refine seq_mono (fun a1 v1 hn => ?_) _ _ _ h1
    obtain ⟨hI, hs, hk⟩ := hn
    refine ⟨?_, ?_⟩
    rotate_left
    · have h2 := hk x
      rw [put_self hs] at h2
      refine seq_mono (fun a2 w3 hn => ?_) _ _ _ h2
      obtain ⟨-, -, hf⟩ := hn
      exact load_comb hr0 hal hw hd π a2 w3 hf
    · refine seq_run v v1 (hw _) (hal a1 v1 hI) (hr0 _) ?_
      intro K hK
      rw [hd]
      refine hK _ _ (seq_done ?_)
      have h2 := hk v
      rw [List.map_cons]
      refine seq_app (π := [(nth l i, true)]) _ _ _ (seq_mono (fun a2 w3 hn => ?_) _ _ _ h2)
      obtain ⟨-, hs3, hf⟩ := hn
      have := load_done π a2 w3 hf
      rwa [put_self hs3] at this
end
/-- **A LOAD AT WHATEVER TIME BESIDE CALLS.** -/
theorem wp_region_load (R : World → World → Prop) (I : Act → World → Prop) (s : Nat) (v : Value) (j : Nat) (π : List (List (Nat × Bool) × Nat)) (σ rest : List (Nat × Bool)) {id : Nat} {Q : Exit → Act → World → Prop} {a : Act} {w : World} {P : Program} {l : List Oper} (hm : P.follows .mixedOrders = true)
    (hB : (Region.noSelect l.toArray && (((combL σ rest j π).len == l.length) && (combL σ rest j π).ok l (Array.replicate l.length false))) = true) (hr0 : ∀ x, R x x) (ht : ∀ x y z, R x y → R y z → R x z)
    (hal : ∀ a w, I a w → (execOp (Act.eval a) (nth l j)).run P w = .ok (.value v) w) (hw : ∀ ys, Region.wanted (nth l j) ys = true) (hd : (nth l j).dst = some s)
    (h : loadB P l Q R I s v σ rest π a w.drew) : (Code.region id l.toArray true).wp P Q a w :=
  wp_region_plan (combL σ rest j π) R hm hB hr0 ht (load_comb hr0 hal hw hd π a w.drew h)
end Go.Proofs.YticbjiddbjgikaaDoor
/- A function whose body jumps back to one label behind its first statements: the passes are walked once. -/
namespace Go.Proofs.YticbjiddbjgikaaDoor
open Go.RowKit
set_option linter.unusedVariables false
set_option linter.unusedSimpArgs false

theorem jump_imp {l : Nat} {J K : Act → World → Prop} {Q : Exit → Act → World → Prop} (h : ∀ a w, J a w → K a w) : ∀ e a w, Exit.jump l J Q e a w → Exit.jump l K Q e a w := fun e a w hq => by
  cases e <;> simp only [Exit.jump] at hq ⊢ <;> first | exact hq | exact ⟨hq.1, h _ _ hq.2⟩
/-- **A LABEL BEHIND A BEGINNING: J holds there, and each pass from it goes out, or comes back with J and a smaller measure.** -/
theorem wp_scope_back {P : Program} {a : Act} {w : World} {Q : Exit → Act → World → Prop} {pre rest : Code} (l : Nat) (J : Act → World → Prop) (μ : Act → World → Nat) (hf : findLabel pre l = none)
    (first : pre.wp P (Exit.then J fun _ _ _ => False) a w) (pass : ∀ a w, J a w → rest.wp P (Exit.jump l (fun a' w' => J a' w' ∧ μ a' w' < μ a w) Q) a w) : (Code.scope (pre.seq ((Code.label l).seq rest))).wp P Q a w := by
  refine wp_scope_jumps (rest := Code.skip.seq rest) l J μ (by simp [findLabel, hf]) ?_ fun a w h => wp_seq (wp_skip (pass a w h))
  refine wp_seq (Code.wp_mono ?_ first)
  intro e a1 w1 h
  cases e with
  | normal => exact wp_seq (wp_label (Code.wp_mono (jump_imp fun _ _ h => h.1) (pass a1 w1 h)))
  | _ => exact h.elim
end Go.Proofs.YticbjiddbjgikaaDoor
/- Iterators that hand out a list that is known: what an iterator asks of each round and a round of the iterator (Gen), a loop over one (range_out), and a loop over one in a round of another (range_in). A caller's own blocks: some below the loop's beginning (Pv), and one that may grow (O). -/
namespace Go.Proofs.YticbjiddbjgikaaDoor
open Go.RowKit
set_option linter.unusedVariables false
set_option linter.unusedSimpArgs false

/-- what a round may do: nothing turns but the caller's own blocks; its growing block stays, or is a new one -/
structure Rnd (Pv : Nat → Prop) (O O' : Option Nat) (w w' : World) : Prop where
  os : w'.os = w.os
  tape : w'.tape = w.tape
  output : w'.output = w.output
  size : w.heap.size ≤ w'.heap.size
  block : ∀ k, k < w.heap.size → ¬ Pv k → O ≠ some k → w'.heap[k]? = w.heap[k]?
  own : O' = O ∨ ∃ k, O' = some k ∧ w.heap.size ≤ k
theorem Rnd.off {Pv : Nat → Prop} {O O' : Option Nat} {a b : World} (h : Rnd Pv O O' a b) {k : Nat} (hk : k < a.heap.size) (ho : O ≠ some k) : O' ≠ some k := by
  rcases h.own with e | ⟨j, e, hj⟩
  · rw [e]; exact ho
  · rw [e]; intro q; injection q with q; omega
theorem Rnd.trans {Pv : Nat → Prop} {O O1 O2 : Option Nat} {a b c : World} (h : Rnd Pv O O1 a b) (k : Rnd Pv O1 O2 b c) : Rnd Pv O O2 a c := by
  refine ⟨k.os.trans h.os, k.tape.trans h.tape, k.output.trans h.output, Nat.le_trans h.size k.size, fun j hj hp ho => ?_, ?_⟩
  · exact (k.block j (Nat.lt_of_lt_of_le hj h.size) hp (h.off hj ho)).trans (h.block j hj hp ho)
  · rcases k.own with e | ⟨j, e, hj⟩
    · rw [e]; exact h.own
    · exact .inr ⟨j, e, Nat.le_trans h.size hj⟩
theorem Rnd.more {Pv Pv' : Nat → Prop} {O O' : Option Nat} {a b : World} (h : Rnd Pv O O' a b) (hp : ∀ k, Pv k → Pv' k) : Rnd Pv' O O' a b :=
  ⟨h.os, h.tape, h.output, h.size, fun j hj hn ho => h.block j hj (fun q => hn (hp j q)) ho, h.own⟩
/-- own blocks that are new since are none of the elder world's -/
theorem Rnd.less {Pv Pv' : Nat → Prop} {O O' : Option Nat} {a b : World} (h : Rnd Pv' O O' a b) (hp : ∀ k, k < a.heap.size → Pv' k → Pv k) : Rnd Pv O O' a b :=
  ⟨h.os, h.tape, h.output, h.size, fun j hj hn ho => h.block j hj (fun q => hn (hp j hj q)) ho, h.own⟩
theorem Rnd.ext {Pv : Nat → Prop} {O : Option Nat} {a b : World} (h : Ext a b) : Rnd Pv O O a b := ⟨h.os, h.tape, h.output, h.size, fun j hj _ _ => h.block j hj, .inl rfl⟩
theorem Rnd.refl {Pv : Nat → Prop} {O : Option Nat} (a : World) : Rnd Pv O O a a := .ext (Ext.refl a)
theorem Rnd.put {Pv : Nat → Prop} {O : Option Nat} (a : World) {l : Nat} (hp : Pv l) (o : Obj) : Rnd Pv O O a (a.putObj l o) :=
  ⟨rfl, rfl, rfl, by simp, fun k hk hn _ => World.putObj_heap_other (fun e => hn (e ▸ hp)), .inl rfl⟩
theorem Rnd.row {Pv : Nat → Prop} {O : Option Nat} (a : World) {g : Nat} (hp : Pv g) (cs : Array Value) : Rnd Pv O O a (a.setRow g cs) :=
  ⟨rfl, rfl, rfl, by rw [size_setRow]; exact Nat.le_refl _, fun k hk hn _ => setRow_other _ _ _ _ (fun e => hn (e ▸ hp)), .inl rfl⟩
theorem Rnd.grown {Pv : Nat → Prop} {a b : World} {O O' : Option Nat} (h : a.grownBy b O) (ho : O' = O ∨ O' = some a.heap.size) : Rnd Pv O O' a b :=
  ⟨h.os, h.tape, h.output, h.size, fun k hk _ hn => h.block k hk (fun e => hn e.symm), ho.imp id fun e => ⟨_, e, Nat.le_refl _⟩⟩
theorem Rnd.below {Pv : Nat → Prop} {O O' : Option Nat} {a b : World} {n0 : Nat} (h : Rnd Pv O O' a b) (hn : n0 ≤ a.heap.size) (hp : ∀ k, Pv k → n0 ≤ k) (ho : ∀ k, O = some k → n0 ≤ k) : Below n0 a b :=
  ⟨h.os, h.tape, h.output, h.size, fun k hk => h.block k (by omega) (fun q => by have := hp k q; omega) (fun q => by have := ho k q; omega)⟩
theorem Rnd.blk {Pv : Nat → Prop} {O O' : Option Nat} {a b : World} (h : Rnd Pv O O' a b) {g : Nat} {t : TypeId} {cs : Array Value} (hb : Blk a g t cs) (hp : ¬ Pv g) (ho : O ≠ some g) : Blk b g t cs := (h.block g hb.lt hp ho).trans hb
theorem Rnd.base {Pv : Nat → Prop} {O O' : Option Nat} {a b : World} {n0 : Nat} (h : Rnd Pv O O' a b) (hn : n0 ≤ a.heap.size) (ho : ∀ k, O = some k → n0 ≤ k) : ∀ k, O' = some k → n0 ≤ k := by
  rcases h.own with e | ⟨j, e, hj⟩
  · rw [e]; exact ho
  · rw [e]; intro k q; injection q with q; omega
/-- what an iterator may do between rounds: nothing turns below B, nor the caller's growing block -/
structure Stp (B : Nat) (O : Option Nat) (w w' : World) : Prop where
  os : w'.os = w.os
  tape : w'.tape = w.tape
  output : w'.output = w.output
  size : w.heap.size ≤ w'.heap.size
  block : ∀ k, k < w.heap.size → (k < B ∨ O = some k) → w'.heap[k]? = w.heap[k]?
theorem Stp.ext {B : Nat} {O : Option Nat} {a b : World} (h : Ext a b) : Stp B O a b := ⟨h.os, h.tape, h.output, h.size, fun k hk _ => h.block k hk⟩
theorem Stp.trans {B : Nat} {O : Option Nat} {a b c : World} (h : Stp B O a b) (k : Stp B O b c) : Stp B O a c :=
  ⟨k.os.trans h.os, k.tape.trans h.tape, k.output.trans h.output, Nat.le_trans h.size k.size, fun j hj hq => (k.block j (Nat.lt_of_lt_of_le hj h.size) hq).trans (h.block j hj hq)⟩
theorem Stp.more {B B' : Nat} {O : Option Nat} {a b : World} (h : Stp B' O a b) (hB : B ≤ B') : Stp B O a b :=
  ⟨h.os, h.tape, h.output, h.size, fun j hj hq => h.block j hj (hq.imp (fun q => by omega) id)⟩
theorem Stp.put {B : Nat} {O : Option Nat} (a : World) {l : Nat} (hB : B ≤ l) (ho : O ≠ some l) (o : Obj) : Stp B O a (a.putObj l o) :=
  ⟨rfl, rfl, rfl, by simp, fun k hk hq => World.putObj_heap_other (fun e => by subst e; rcases hq with q | q; omega; exact ho q)⟩
theorem Stp.row {B : Nat} {O : Option Nat} (a : World) {g : Nat} (hB : B ≤ g) (ho : O ≠ some g) (cs : Array Value) : Stp B O a (a.setRow g cs) :=
  ⟨rfl, rfl, rfl, by rw [size_setRow]; exact Nat.le_refl _, fun k hk hq => setRow_other _ _ _ _ (fun e => by subst e; rcases hq with q | q; omega; exact ho q)⟩
theorem Stp.blk {B : Nat} {O : Option Nat} {a b : World} (h : Stp B O a b) {g : Nat} {t : TypeId} {cs : Array Value} (hb : Blk a g t cs) (hg : g < B ∨ O = some g) : Blk b g t cs := (h.block g hb.lt hg).trans hb
theorem Stp.below {B n0 : Nat} {O : Option Nat} {a b : World} (h : Stp B O a b) (hn : n0 ≤ B) (hz : n0 ≤ a.heap.size) : Below n0 a b := ⟨h.os, h.tape, h.output, h.size, fun k hk => h.block k (by omega) (.inl (by omega))⟩
theorem Stp.own {B : Nat} {a b : World} {base sz n : Nat} {e : TypeId} {v : Value} {xs : List Value} (h : Stp B v.ownBlock a b) (ho : a.ownsRow base e sz v n xs) : b.ownsRow base e sz v n xs := by
  refine ⟨ho.1, ?_⟩
  rcases ho.2 with h0 | ⟨g, cap, cur, rfl, hbg, hh, h3⟩
  · exact .inl h0
  · exact .inr ⟨g, cap, cur, rfl, hbg, h.blk (t := e) hh (.inr rfl), h3⟩
/-- what is said of a world abides what an iterator may do -/
def Abd {α : Type} (B : Nat) (J : List α → Option Nat → World → Prop) : Prop := ∀ s O w w', J s O w → Stp B O w w' → J s O w'
theorem Abd.more {α : Type} {B B' : Nat} {J : List α → Option Nat → World → Prop} (h : Abd B J) (hB : B ≤ B') : Abd B' J := fun s O w w' hj hs => h s O w w' hj (hs.more hB)
/-- the iterator g of these boxes hands out xs, in worlds of which Pre holds; what lies below n0 is nobody's, nor are the blocks bx the caller's -/
def Gen {α : Type} (P : Program) (g : Nat) (lb : Array Value) (enc : α → Array Value) (Pre : World → Prop) (n0 : Nat) (bx : List Nat) (xs : List α) : Prop :=
  ∀ (l : Nat) (Pv : Nat → Prop) (J Jx : List α → Option Nat → World → Prop) (O : Option Nat) (W : World), Pre W → n0 ≤ W.heap.size → (∀ k, Pv k → n0 ≤ k ∧ k < W.heap.size) → (∀ k, k ∈ bx → ¬ Pv k ∧ O ≠ some k) →
    (∀ s O w, J s O w → ∀ k, O = some k → n0 ≤ k ∧ k < w.heap.size) → Abd W.heap.size J → Abd W.heap.size Jx →
    (∀ pre x post O1 W1, xs = pre ++ x :: post → J pre O1 W1 → YieldAt Fence.wide 10 P l (enc x) W1 fun e W' => ∃ O', Rnd Pv O1 O' W1 W' ∧ ((e = .returned (.bool true) ∧ J (pre ++ [x]) O' W') ∨ (e = .returned (.bool false) ∧ Jx (pre ++ [x]) O' W'))) →
    J [] O W → CallsIn Fence.wide 11 P g (#[.func (.yield l) #[] #[]] ++ lb) W fun e W' => (∃ v, e = .returned v) ∧ ((∃ O', J xs O' W') ∨ (∃ pre O', pre <+: xs ∧ Jx pre O' W'))
/-- how a round's body may be left -/
def rndPost {α : Type} (Pv : Nat → Prop) (I : List α → Option Nat → World → Prop) (Ix : Code → List α → Option Nat → World → Prop) (s : List α) (O : Option Nat) (W : World) : Exit → Act → World → Prop
  | .normal, _, W' => ∃ O', Rnd Pv O O' W W' ∧ I s O' W'
  | .ret, _, W' => ∃ O', Rnd Pv O O' W W' ∧ Ix .ret s O' W'
  | .exit id, _, W' => ∃ O', Rnd Pv O O' W W' ∧ Ix (.exit id) s O' W'
  | .goto t, _, W' => ∃ O', Rnd Pv O O' W W' ∧ Ix (.goto t) s O' W'
  | .panic _, _, _ => False
  | .outgrown, _, _ => False
theorem blk_keep {w w' : World} (h : ∀ (k : Nat) (o : Obj), w.heap[k]? = some o → o.isCells = true → w'.heap[k]? = some o) {g : Nat} {t : TypeId} {cs : Array Value} (hb : Blk w g t cs) : Blk w' g t cs := by
  unfold Blk at hb ⊢
  exact h _ _ hb rfl
/-- the record of a loop -/
abbrev loopR (fn : FuncId) (tmps : Array Value) (ps : Array Tmp) (assign body : Code) (defs : Nat) (st : LoopState) (pe : Option Code) : Obj := .loop { state := st, pending := pe, fn, tmps, params := ps, assign, body, defers := defs }
section
variable {α : Type} {P : Program} {gf : Nat} {lb : Array Value} {enc : α → Array Value} {Pre : World → Prop} {n0 : Nat} {bx : List Nat} {xs : List α}
/-- the rounds, once the record is laid -/
theorem gen_core (hs : Gen P gf lb enc Pre n0 bx xs) {fn : FuncId} {tmps : Array Value} {ps : Array Tmp} {assign body : Code} {defs l : Nat} {W1 : World} (hl : W1.heap[l]? = some (loopR fn tmps ps assign body defs .ready none)) (hsz : W1.heap.size = l + 1)
    (hPre : Pre W1) (hn : n0 ≤ l) {Pv : Nat → Prop} {O : Option Nat} (hPv : ∀ k, Pv k → n0 ≤ k ∧ k < l) (hbx : ∀ k, k ∈ bx → k < l ∧ ¬ Pv k ∧ O ≠ some k) (hOl : O ≠ some l) (hps : ∀ x, (enc x).size = ps.size)
    (I : List α → Option Nat → World → Prop) (Ix : Code → List α → Option Nat → World → Prop) (hO : ∀ s O w, I s O w → ∀ k, O = some k → n0 ≤ k ∧ k < w.heap.size) (hI : Abd l I) (hIx : ∀ c, Abd l (Ix c)) (h0 : I [] O W1)
    (hround : ∀ pre x post O W, xs = pre ++ x :: post → I pre O W → l < W.heap.size → O ≠ some l → (∃ r, W.heap[l]? = some (.loop r)) →
      assign.wpIn (RF l) 10 P (Exit.then (fun a' W' => Ext W W' ∧ ∀ W2, Stp l O W' W2 → (∃ r, W2.heap[l]? = some (.loop r)) → (∀ (k : Nat) (o : Obj), W'.heap[k]? = some o → o.isCells = true → W2.heap[k]? = some o) → body.wpIn (RF l) 10 P (rndPost Pv I Ix (pre ++ [x]) O W2) a' W2) (fun _ _ _ => False))
        { tmps := (ps.zip (enc x)).foldl (fun t (p, v) => t.setIfInBounds p v) tmps, defers := [] } W) :
    CallsIn Fence.wide 11 P gf (#[.func (.yield l) #[] #[]] ++ lb) W1 fun e W2 => (∃ v, e = .returned v) ∧
      ((∃ O', I xs O' W2 ∧ O' ≠ some l ∧ W2.heap[l]? = some (loopR fn tmps ps assign body defs .ready none)) ∨ (∃ pre O' c, pre <+: xs ∧ Ix c pre O' W2 ∧ O' ≠ some l ∧ W2.heap[l]? = some (loopR fn tmps ps assign body defs .done (some c)))) := by
  have hq : ∀ {O : Option Nat} {w w' : World} {o : Obj}, Stp W1.heap.size O w w' → w.heap[l]? = some o → w'.heap[l]? = some o := fun {O w w' o} st h => (st.block l (Array.getElem?_eq_some_iff.1 h).1 (.inl (by omega))).trans h
  refine (hs l (fun k => Pv k ∨ k = l) (fun s O w => I s O w ∧ O ≠ some l ∧ w.heap[l]? = some (loopR fn tmps ps assign body defs .ready none)) (fun s O w => ∃ c, Ix c s O w ∧ O ≠ some l ∧ w.heap[l]? = some (loopR fn tmps ps assign body defs .done (some c))) O W1 hPre (by omega)
    (fun k h => by rcases h with h | rfl; exact ⟨(hPv k h).1, by have := (hPv k h).2; omega⟩; exact ⟨hn, by omega⟩) (fun k h => ⟨fun q => by rcases q with q | rfl; exact (hbx k h).2.1 q; exact absurd (hbx k h).1 (Nat.lt_irrefl _), (hbx k h).2.2⟩)
    (fun s O w h => hO s O w h.1) (fun s O w w' h st => ⟨hI s O w w' h.1 (st.more (by omega)), h.2.1, hq st h.2.2⟩) (fun s O w w' ⟨c, h1, h2, h3⟩ st => ⟨c, hIx c s O w w' h1 (st.more (by omega)), h2, hq st h3⟩) ?_ ⟨h0, hOl, hl⟩).mono ?_
  · rintro pre x post O W hx ⟨hi, ho, hlW⟩
    have hlt : l < W.heap.size := (Array.getElem?_eq_some_iff.1 hlW).1
    have hy := run_yield (P := P) (args := enc x) hlW (hps x)
    refine ⟨fn, _, assign, body, hy, roundIn_of_wpIn (F := Fence.wide) trivial (wpIn_mono (hround pre x post O W hx hi hlt ho ⟨_, hlW⟩) ?_)⟩
    intro e a' Wa hea
    cases e <;> try exact hea.elim
    obtain ⟨hE, hb⟩ := hea
    have hla : Wa.heap[l]? = some (loopR fn tmps ps assign body defs .ready none) := (hE.block l hlt).trans hlW
    have hlta : l < Wa.heap.size := Nat.lt_of_lt_of_le hlt hE.size
    refine ⟨_, run_beginRound hla rfl, ?_⟩
    have hl2 : (Wa.putObj l (loopR fn tmps ps assign body defs .busy none)).heap[l]? = some (loopR fn tmps ps assign body defs .busy none) := World.putObj_heap_same hlta
    have hR : Rnd (fun k => Pv k ∨ k = l) O O W (Wa.putObj l (loopR fn tmps ps assign body defs .busy none)) := (Rnd.ext hE).trans (Rnd.put _ (.inr rfl) _)
    have hlW2 : l < (Wa.putObj l (loopR fn tmps ps assign body defs .busy none)).heap.size := by simp; exact hlta
    refine wpIn_mono (hb _ (Stp.put _ (Nat.le_refl _) ho _) ⟨_, hl2⟩ fun k o hk hc => (World.putObj_heap_other (fun q => by subst q; rw [hla] at hk; injection hk with hk; subst hk; cases hc)).trans hk) ?_
    generalize Wa.putObj l (loopR fn tmps ps assign body defs .busy none) = Wb at *
    have fin : ∀ (jump : Option Code) (O' : Option Nat) (W3 : World), Rnd Pv O O' Wb W3 →
        (Instr.endRound l jump).run P W3 = .ok (.bool jump.isNone) (W3.putObj l (loopR fn tmps ps assign body defs (if jump.isNone then .ready else .done) jump)) ∧
        O' ≠ some l ∧ (W3.putObj l (loopR fn tmps ps assign body defs (if jump.isNone then .ready else .done) jump)).heap[l]? = some (loopR fn tmps ps assign body defs (if jump.isNone then .ready else .done) jump) ∧
        Rnd (fun k => Pv k ∨ k = l) O O' W (W3.putObj l (loopR fn tmps ps assign body defs (if jump.isNone then .ready else .done) jump)) := fun jump O' W3 hr3 => by
      have hnp : ¬ Pv l := fun q => by have := (hPv l q).2; omega
      have hl3 := (hr3.block l hlW2 hnp ho).trans hl2
      exact ⟨run_endRound (P := P) jump hl3, hr3.off hlW2 ho, World.putObj_heap_same (Array.getElem?_eq_some_iff.1 hl3).1, (hR.trans (hr3.more fun k q => .inl q)).trans (Rnd.put _ (.inr rfl) _)⟩
    rintro e a3 W3 hp
    cases e with
    | normal =>
      obtain ⟨O', hr3, hi3⟩ := hp
      obtain ⟨h1, h2, h3, h4⟩ := fin none O' W3 hr3
      exact ⟨_, _, h1, O', h4, .inl ⟨rfl, hI _ _ _ _ hi3 (Stp.put _ (Nat.le_refl _) h2 _), h2, h3⟩⟩
    | ret =>
      obtain ⟨O', hr3, hi3⟩ := hp
      obtain ⟨h1, h2, h3, h4⟩ := fin (some .ret) O' W3 hr3
      exact ⟨_, _, h1, O', h4, .inr ⟨rfl, _, hIx _ _ _ _ _ hi3 (Stp.put _ (Nat.le_refl _) h2 _), h2, h3⟩⟩
    | exit id =>
      obtain ⟨O', hr3, hi3⟩ := hp
      obtain ⟨h1, h2, h3, h4⟩ := fin (some (.exit id)) O' W3 hr3
      exact ⟨_, _, h1, O', h4, .inr ⟨rfl, _, hIx _ _ _ _ _ hi3 (Stp.put _ (Nat.le_refl _) h2 _), h2, h3⟩⟩
    | goto t =>
      obtain ⟨O', hr3, hi3⟩ := hp
      obtain ⟨h1, h2, h3, h4⟩ := fin (some (.goto t)) O' W3 hr3
      exact ⟨_, _, h1, O', h4, .inr ⟨rfl, _, hIx _ _ _ _ _ hi3 (Stp.put _ (Nat.le_refl _) h2 _), h2, h3⟩⟩
    | panic c => exact hp.elim
    | outgrown => exact hp.elim
  · rintro e W2 ⟨hv, ⟨O', hi, ho, hl2⟩ | ⟨pre, O', hp, c, hx, ho, hl2⟩⟩
    · exact ⟨hv, .inl ⟨O', hi, ho, hl2⟩⟩
    · exact ⟨hv, .inr ⟨pre, O', c, hp, hx, ho, hl2⟩⟩
/-- **A LOOP OVER SUCH AN ITERATOR.** -/
theorem range_out {n : Nat} (hs : Gen P gf lb enc Pre n0 bx xs) {g : Operand} {ps : Array Tmp} {assign body : Code} {Q : Exit → Act → World → Prop} {a : Act} {w : World} (hg : a.eval g = .func (.func gf) #[] lb) (eg : ∀ args w, (callFunc gf args).run P w = .ok (.enter gf args) w)
    (hPre : ∀ W, Ext w W → Pre W) (hn : n0 ≤ w.heap.size) (Pv : Nat → Prop) (O : Option Nat) (hPv : ∀ k, Pv k → n0 ≤ k ∧ k < w.heap.size) (hbx : ∀ k, k ∈ bx → k < w.heap.size ∧ ¬ Pv k ∧ O ≠ some k) (hOw : ∀ k, O = some k → k < w.heap.size) (hps : ∀ x, (enc x).size = ps.size)
    (I : List α → Option Nat → World → Prop) (Ix : Code → List α → Option Nat → World → Prop) (hO : ∀ s O w, I s O w → ∀ k, O = some k → n0 ≤ k ∧ k < w.heap.size) (hI : Abd w.heap.size I) (hIx : ∀ c, Abd w.heap.size (Ix c)) (h0 : I [] O w)
    (hround : ∀ l pre x post O W, w.heap.size < l → xs = pre ++ x :: post → I pre O W → l < W.heap.size → O ≠ some l → (∃ r, W.heap[l]? = some (.loop r)) →
      assign.wpIn (RF l) 10 P (Exit.then (fun a' W' => Ext W W' ∧ ∀ W2, Stp l O W' W2 → (∃ r, W2.heap[l]? = some (.loop r)) → (∀ (k : Nat) (o : Obj), W'.heap[k]? = some o → o.isCells = true → W2.heap[k]? = some o) → body.wpIn (RF l) 10 P (rndPost Pv I Ix (pre ++ [x]) O W2) a' W2) (fun _ _ _ => False))
        { tmps := (ps.zip (enc x)).foldl (fun t (p, v) => t.setIfInBounds p v) a.tmps, defers := [] } W)
    (hdone : ∀ D O' W, w.heap.size ≤ D → O' ≠ some D → I xs O' W → W.heap[D]? = some (.deferred (some [])) → Q .normal { a with defers := { target := .collected D, args := #[] } :: a.defers } W)
    (hstop : ∀ D c pre O' W, w.heap.size ≤ D → O' ≠ some D → pre <+: xs → Ix c pre O' W → W.heap[D]? = some (.deferred (some [])) → c.wpIn Fence.wide n P Q { a with defers := { target := .collected D, args := #[] } :: a.defers } W) :
    (Code.rangeFunc g ps assign body).wpIn Fence.wide n P Q a w := by
  refine wpIn_rangeFunc ?_
  intro fn hfn
  obtain ⟨W1, hW1⟩ : ∃ W1, (w.alloc (.deferred (some []))).alloc (loopR fn a.tmps ps assign body w.heap.size .ready none) = W1 := ⟨_, rfl⟩
  have hE1 : Ext w W1 := by rw [← hW1]; exact ((Ext.refl w).alloc _).alloc _
  have hz1 : W1.heap.size = w.heap.size + 1 + 1 := by rw [← hW1]; simp
  have hL1 : W1.heap[w.heap.size + 1]? = some (loopR fn a.tmps ps assign body w.heap.size .ready none) := by
    rw [← hW1]; have := World.alloc_heap_new (w.alloc (.deferred (some []))) (loopR fn a.tmps ps assign body w.heap.size .ready none); rwa [World.size_alloc] at this
  have hD1 : W1.heap[w.heap.size]? = some (.deferred (some [])) := by
    rw [← hW1]; exact (Below.heap_alloc _ _ _ (by simp)).trans (World.alloc_heap_new w _)
  refine ⟨w.heap.size + 1, [{ target := .collected w.heap.size, args := #[] }], W1, { target := .fn (.func gf) lb, args := #[.func (.yield (w.heap.size + 1)) #[] #[]] }, W1, gf,
    #[.func (.yield (w.heap.size + 1)) #[] #[]] ++ lb, W1, ?_, ?_, ?_, ?_, (fun h => by cases (show false = true from h)), ?_⟩
  · rw [← hW1]; exact run_enterLoop_outer _ _ _ _ _
  · simp only [resolve, hg]
    simp [go_sem]
  · intro f' hf'; trivial
  · simp [invoke, go_sem, eg]
  · have hnO : ∀ k, w.heap.size ≤ k → O ≠ some k := fun k h e => by have := hOw k e; omega
    have hnP : ∀ k, w.heap.size ≤ k → ¬ Pv k := fun k h e => by have := (hPv k e).2; omega
    refine (callsIn_wide (n := n - 1)).2 ((callsIn_wide (n := 11)).1 ((gen_core hs (Pv := Pv) (O := O) hL1 hz1 (hPre _ hE1) (by omega) (fun k h => ⟨(hPv k h).1, by have := (hPv k h).2; omega⟩) (fun k h => ⟨by have := (hbx k h).1; omega, (hbx k h).2⟩) (hnO _ (by omega)) hps
      (fun s O W => I s O W ∧ O ≠ some w.heap.size ∧ W.heap[w.heap.size]? = some (.deferred (some []))) (fun c s O W => Ix c s O W ∧ O ≠ some w.heap.size ∧ W.heap[w.heap.size]? = some (.deferred (some [])))
      (fun s O W h => hO s O W h.1) (fun s O W W' h st => ⟨hI s O W W' h.1 (st.more (by omega)), h.2.1, (st.block _ (Array.getElem?_eq_some_iff.1 h.2.2).1 (.inl (by omega))).trans h.2.2⟩)
      (fun c s O W W' h st => ⟨hIx c s O W W' h.1 (st.more (by omega)), h.2.1, (st.block _ (Array.getElem?_eq_some_iff.1 h.2.2).1 (.inl (by omega))).trans h.2.2⟩)
      ⟨hI _ _ _ _ h0 (Stp.ext hE1), hnO _ (Nat.le_refl _), hD1⟩ ?_).mono ?_))
    · rintro pre x post O W hx ⟨hi, ho, hd⟩ hlt hol hr
      refine wpIn_mono (hround (w.heap.size + 1) pre x post O W (by omega) hx hi hlt hol hr) ?_
      intro e a' Wa hea
      cases e <;> try exact hea.elim
      obtain ⟨hE, hb⟩ := hea
      refine ⟨hE, fun W2 st hr2 hc => wpIn_mono (hb W2 st hr2 hc) ?_⟩
      have hda := (hE.block _ (Array.getElem?_eq_some_iff.1 hd).1).trans hd
      have hd2 := (st.block _ (Array.getElem?_eq_some_iff.1 hda).1 (.inl (by omega))).trans hda
      have hdl := (Array.getElem?_eq_some_iff.1 hd2).1
      have hx2 : ∀ {O' : Option Nat} {W' : World}, Rnd Pv O O' W2 W' → O' ≠ some w.heap.size ∧ W'.heap[w.heap.size]? = some (.deferred (some [])) := fun {O' W'} h => ⟨h.off hdl ho, (h.block _ hdl (hnP _ (Nat.le_refl _)) ho).trans hd2⟩
      intro e a3 W3 hp
      cases e <;> first
        | exact hp.elim
        | (obtain ⟨O', h1, h2⟩ := hp; exact ⟨O', h1, h2, hx2 h1⟩)
    · rintro e W2 ⟨⟨v, rfl⟩, ⟨O', ⟨hi, ho, hd⟩, hol, hl⟩ | ⟨pre, O', c, hp, ⟨hi, ho, hd⟩, hol, hl⟩⟩
      · exact ⟨none, _, run_endLoop (P := P) hl (by simp), hdone _ O' _ (Nat.le_refl _) ho (hI _ _ _ _ hi (Stp.put _ (by omega) hol _)) ((World.putObj_heap_other (by omega)).trans hd)⟩
      · exact ⟨some c, _, run_endLoop (P := P) hl (by simp), hstop _ c pre O' _ (Nat.le_refl _) ho hp (hIx _ _ _ _ _ hi (Stp.put _ (by omega) hol _)) ((World.putObj_heap_other (by omega)).trans hd)⟩
/-- **THE SAME IN A ROUND OF ANOTHER LOOP.** -/
theorem range_in {n : Nat} (hs : Gen P gf lb enc Pre n0 bx xs) {g : Operand} {ps : Array Tmp} {assign body : Code} {Q : Exit → Act → World → Prop} {a : Act} {w : World} {l₀ : Nat} (hl₀ : ∃ r, w.heap[l₀]? = some (.loop r)) (hg : a.eval g = .func (.func gf) #[] lb) (eg : ∀ args w, (callFunc gf args).run P w = .ok (.enter gf args) w)
    (hPre : ∀ W, Ext w W → Pre W) (hn : n0 ≤ w.heap.size) (Pv : Nat → Prop) (O : Option Nat) (hPv : ∀ k, Pv k → n0 ≤ k ∧ k < w.heap.size) (hbx : ∀ k, k ∈ bx → k < w.heap.size ∧ ¬ Pv k ∧ O ≠ some k) (hOw : ∀ k, O = some k → k < w.heap.size) (hps : ∀ x, (enc x).size = ps.size)
    (I : List α → Option Nat → World → Prop) (Ix : Code → List α → Option Nat → World → Prop) (hO : ∀ s O w, I s O w → ∀ k, O = some k → n0 ≤ k ∧ k < w.heap.size) (hI : Abd w.heap.size I) (hIx : ∀ c, Abd w.heap.size (Ix c)) (h0 : I [] O w)
    (hround : ∀ l pre x post O W, w.heap.size ≤ l → xs = pre ++ x :: post → I pre O W → l < W.heap.size → O ≠ some l → (∃ r, W.heap[l]? = some (.loop r)) →
      assign.wpIn (RF l) 10 P (Exit.then (fun a' W' => Ext W W' ∧ ∀ W2, Stp l O W' W2 → (∃ r, W2.heap[l]? = some (.loop r)) → (∀ (k : Nat) (o : Obj), W'.heap[k]? = some o → o.isCells = true → W2.heap[k]? = some o) → body.wpIn (RF l) 10 P (rndPost Pv I Ix (pre ++ [x]) O W2) a' W2) (fun _ _ _ => False))
        { tmps := (ps.zip (enc x)).foldl (fun t (p, v) => t.setIfInBounds p v) a.tmps, defers := [] } W)
    (hdone : ∀ O' W, I xs O' W → Q .normal a W) (hstop : ∀ c pre O' W, pre <+: xs → Ix c pre O' W → c.wpIn (RF l₀) n P Q a W) :
    (Code.rangeFunc g ps assign body).wpIn (RF l₀) n P Q a w := by
  refine wpIn_rangeFunc ?_
  intro fn hfn
  obtain ⟨r₀, hl₀⟩ := hl₀
  obtain ⟨W1, hW1⟩ : ∃ W1, w.alloc (loopR fn a.tmps ps assign body r₀.defers .ready none) = W1 := ⟨_, rfl⟩
  have hE1 : Ext w W1 := by rw [← hW1]; exact (Ext.refl w).alloc _
  have hz1 : W1.heap.size = w.heap.size + 1 := by rw [← hW1]; simp
  have hL1 : W1.heap[w.heap.size]? = some (loopR fn a.tmps ps assign body r₀.defers .ready none) := by rw [← hW1]; exact World.alloc_heap_new w _
  refine ⟨w.heap.size, [], W1, { target := .fn (.func gf) lb, args := #[.func (.yield w.heap.size) #[] #[]] }, W1, gf, #[.func (.yield w.heap.size) #[] #[]] ++ lb, W1, ?_, ?_, ?_, ?_, (fun h => by cases (show false = true from h)), ?_⟩
  · rw [← hW1]; exact run_enterLoop_inner hl₀ _ _ _ _ _
  · simp only [resolve, hg]
    simp [go_sem]
  · intro f' hf'; trivial
  · simp [invoke, go_sem, eg]
  · have hnO : ∀ k, w.heap.size ≤ k → O ≠ some k := fun k h e => by have := hOw k e; omega
    refine CallsIn.inRound l₀ ((callsIn_wide (n := n - 1)).2 ((callsIn_wide (n := 11)).1 ((gen_core hs (Pv := Pv) (O := O) hL1 hz1 (hPre _ hE1) hn hPv hbx (hnO _ (Nat.le_refl _)) hps I Ix hO hI hIx (hI _ _ _ _ h0 (Stp.ext hE1)) (fun pre x post O W hx hi hlt hol hr => hround w.heap.size pre x post O W (Nat.le_refl _) hx hi hlt hol hr)).mono ?_)))
    rintro e W2 ⟨⟨v, rfl⟩, ⟨O', hi, ho, hl⟩ | ⟨pre, O', c, hp, hi, ho, hl⟩⟩
    · exact ⟨none, _, run_endLoop (P := P) hl (by simp), hdone O' _ (hI _ _ _ _ hi (Stp.put _ (Nat.le_refl _) ho _))⟩
    · exact ⟨some c, _, run_endLoop (P := P) hl (by simp), hstop c pre O' _ hp (hIx _ _ _ _ _ hi (Stp.put _ (Nat.le_refl _) ho _))⟩
end
end Go.Proofs.YticbjiddbjgikaaDoor
