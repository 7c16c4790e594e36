/- A region in which two operations may come up, and behind the first of them two again: three walks. A struct's cells stored whole into a block. -/
import Derived.Test.YtngioemeplllhaaDoorBox
import Derived.Laws.Tables
import Derived.Laws.CopyOwn
namespace Go.Proofs.YtngioemeplllhaaDoor
open Go.RowKit
set_option linter.unusedVariables false
set_option linter.unusedSimpArgs false
section
variable {P : Program} {Q : Exit → Act → World → Prop} {md : Region.Mode} {R : World → World → Prop}

/-- one operation that comes up beside others, and what is behind it -/
theorem anyE_one {l : List Oper} {listed : Array Bool} {k n : Nat} {N : Act → World → Prop} {a : Act} {w : World} (hk : k ∈ Region.ready md l.toArray listed) (h : wpSeq P l.toArray R Q N [(nth l k, true)] a w)
    (hN : ∀ a w, N a w → wpAnyE P md l.toArray Q R n (listed.setIfInBounds k true) a w) (S : World → Prop) (hS : ∀ x y, S x → R x y → S y) (hw0 : S w) :
    wpOp P l.toArray Q k (fun a' w' => S w' ∧ wpAnyH P md l.toArray Q S n (listed.setIfInBounds k true) a' w') a w := by
  have hi := nth_of l k (by simpa using ready_lt hk)
  unfold wpSeq at h
  unfold wpOp
  simp only [hi]
  by_cases hw : Region.wanted (nth l k) (yielded l.toArray a.tmps) = true
  · rw [if_pos hw] at h ⊢
    refine .inl (Oper.wp_mono (fun a' w' h' => ?_) h)
    have h2 := h'.2
    unfold wpSeq at h2
    exact ⟨hS _ _ hw0 h'.1, hN _ _ h2 S hS (hS _ _ hw0 h'.1)⟩
  · rw [if_neg hw] at h ⊢
    unfold wpSeq at h
    exact ⟨hw0, hN _ _ h S hS hw0⟩
theorem anyE_fork {l : List Oper} {listed : Array Bool} {i j n : Nat} {Ni Nj : Act → World → Prop} {a : Act} {w : World} (hr : Region.ready md l.toArray listed = [i, j])
    (h1 : wpSeq P l.toArray R Q Ni [(nth l i, true)] a w) (h2 : wpSeq P l.toArray R Q Nj [(nth l j, true)] a w)
    (hNi : ∀ a w, Ni a w → wpAnyE P md l.toArray Q R n (listed.setIfInBounds i true) a w) (hNj : ∀ a w, Nj a w → wpAnyE P md l.toArray Q R n (listed.setIfInBounds j true) a w) :
    wpAnyE P md l.toArray Q R (n + 1) listed a w := by
  intro S hS hw0
  refine wpAnyH_all hr (by simp) fun k hk => ?_
  have hk' : k ∈ Region.ready md l.toArray listed := by rw [hr]; exact hk
  rcases List.mem_cons.1 hk with rfl | hk2
  · exact anyE_one hk' h1 hNi S hS hw0
  · obtain rfl : k = j := by simpa using hk2
    exact anyE_one hk' h2 hNj S hS hw0

/-- **THREE WALKS BEHIND A COMMON BEGINNING π: first i, π1, then one of i2, j2 and what is behind it; or first j, and what is behind it.** -/
theorem wp_region_fork2 (π : List (Nat × Bool)) (i : Nat) (π1 : List (Nat × Bool)) (i2 : Nat) (πa : List (Nat × Bool)) (j2 : Nat) (πb : List (Nat × Bool)) (j : Nat) (π2 : List (Nat × Bool)) (R : World → World → Prop) {id : Nat} {Q : Exit → Act → World → Prop} {a : Act} {w : World} {l : List Oper}
    (hm : P.follows .mixedOrders = true)
    (hB : (Region.noSelect l.toArray && (π.length + (π2.length + 1) == l.length) && (π1.length + (πa.length + 1) == π2.length) && (πa.length == πb.length) && (match afterB .any l.toArray π (Array.replicate l.length false) with
      | some mid => (Region.ready .any l.toArray mid == [i, j]) && orderB .any l.toArray π2 (mid.setIfInBounds j true) && (match afterB .any l.toArray π1 (mid.setIfInBounds i true) with
        | some mid2 => (Region.ready .any l.toArray mid2 == [i2, j2]) && orderB .any l.toArray πa (mid2.setIfInBounds i2 true) && orderB .any l.toArray πb (mid2.setIfInBounds j2 true)
        | none => false)
      | none => false)) = true)
    (hr0 : ∀ x, R x x) (ht : ∀ x y z, R x y → R y z → R x z)
    (h : wpSeq P l.toArray R (Calm Q) (fun a w =>
        wpSeq P l.toArray R (Calm Q) (fun a w => wpSeq P l.toArray R (Calm Q) (fun a w =>
            wpSeq P l.toArray R (Calm Q) (fun a w => wpSeq P l.toArray R (Calm Q) (Q .normal) (πa.map fun p => (nth l p.1, p.2)) a w) [(nth l i2, true)] a w ∧
            wpSeq P l.toArray R (Calm Q) (fun a w => wpSeq P l.toArray R (Calm Q) (Q .normal) (πb.map fun p => (nth l p.1, p.2)) a w) [(nth l j2, true)] a w) (π1.map fun p => (nth l p.1, p.2)) a w) [(nth l i, true)] a w ∧
        wpSeq P l.toArray R (Calm Q) (fun a w => wpSeq P l.toArray R (Calm Q) (Q .normal) (π2.map fun p => (nth l p.1, p.2)) a w) [(nth l j, true)] a w) (π.map fun p => (nth l p.1, p.2)) a w.drew) : (Code.region id l.toArray true).wp P Q a w := by
  simp only [Bool.and_eq_true, beq_iff_eq] at hB
  obtain ⟨⟨⟨⟨hs, hl⟩, hl2⟩, hl3⟩, ho⟩ := hB
  refine Code.wp_mono Calm.imp (wp_region_held (S := fun _ => True) hm ?_)
  have hQ : ∀ (c : _) (a : Act) (d : _) (v : Value) (w : World), Calm Q (.panic c) (a.put d v) w → Calm Q (.panic c) a w := fun _ _ _ _ _ h => (h : False).elim
  cases hmid : afterB .any l.toArray π (Array.replicate l.length false) with
  | none => rw [hmid] at ho; cases ho
  | some mid =>
    rw [hmid] at ho
    simp only [Bool.and_eq_true, beq_iff_eq] at ho
    obtain ⟨⟨hr, h2⟩, h1⟩ := ho
    have key := wpAnyE_of_seq (P := P) (md := .any) (Q := Calm Q) (n := π2.length + 1) (fin := mid) hr0 ht hs hQ (fun a w hn => by
      refine anyE_fork hr hn.1 hn.2 (fun a w hi => ?_) (fun a w hj => ?_)
      · cases hmid2 : afterB .any l.toArray π1 (mid.setIfInBounds i true) with
        | none => rw [hmid2] at h1; cases h1
        | some mid2 =>
          rw [hmid2] at h1
          simp only [Bool.and_eq_true, beq_iff_eq] at h1
          obtain ⟨⟨hr2, ha⟩, hb⟩ := h1
          have k2 := wpAnyE_of_seq (P := P) (md := .any) (Q := Calm Q) (n := πa.length + 1) (fin := mid2) hr0 ht hs hQ (fun a w hn => by
            refine anyE_fork hr2 hn.1 hn.2 (fun a w hi => ?_) (fun a w hj => ?_)
            · obtain ⟨fin, hf, he⟩ := orderB_spec ha
              have := wpAnyE_of_seq (P := P) (md := .any) (Q := Calm Q) (n := 0) (fin := fin) hr0 ht hs hQ (fun a w hn => wpAnyE_done he hn) πa _ a w hf hi
              rwa [Nat.add_zero] at this
            · obtain ⟨fin, hf, he⟩ := orderB_spec hb
              have := wpAnyE_of_seq (P := P) (md := .any) (Q := Calm Q) (n := 0) (fin := fin) hr0 ht hs hQ (fun a w hn => wpAnyE_done he hn) πb _ a w hf hj
              rwa [Nat.add_zero, ← hl3] at this) π1 _ a w hmid2 hi
          rwa [hl2] at k2
      · obtain ⟨fin, hf, he⟩ := orderB_spec h2
        have := wpAnyE_of_seq (P := P) (md := .any) (Q := Calm Q) (n := 0) (fin := fin) hr0 ht hs hQ (fun a w hn => wpAnyE_done he hn) π2 _ a w hf hj
        rwa [Nat.add_zero] at this) π _ a w.drew hmid h (fun _ => True) (fun _ _ _ _ => trivial) trivial
    rw [hl] at key
    simpa using key
end

theorem Blk.lower {w w' : World} {B g : Nat} {t : TypeId} {cs : Array Value} (h : Blk w g t cs) (hE : Below B w w') (hg : g < B) : Blk w' g t cs := (hE.block g hg).trans h
theorem Blk.row {w : World} {g : Nat} {t : TypeId} {old : Array Value} (h : Blk w g t old) (cs : Array Value) : Blk (w.setRow g cs) g t cs := setRow_heap w g _ _ t _ h
theorem Blk.apart {w : World} {g k : Nat} {t : TypeId} {cs : Array Value} (h : Blk w g t cs) (hn : g ≠ k) (ds : Array Value) : Blk (w.setRow k ds) g t cs := (setRow_other w k g ds hn).trans h
theorem below_row {B g : Nat} {w0 w : World} (hb : Below B w0 w) (hg : B ≤ g) (cs : Array Value) : Below B w0 (w.setRow g cs) := below_setRow hb hg cs
theorem Ext.row {w0 w : World} {g : Nat} (h : Ext w0 w) (hg : w0.heap.size ≤ g) (cs : Array Value) : Ext w0 (w.setRow g cs) := below_row h hg cs
/-- a struct's cells stored whole, in a region that is walked once -/
theorem seq_store_row {P : Program} {ops : Array Oper} {R : World → World → Prop} {Q : Exit → Act → World → Prop} {N : Act → World → Prop} {o : Oper} {r : List (Oper × Bool)} {a : Act} {w : World} {ty t : TypeId} {x y : Operand} {g : Nat} {cs old : Array Value}
    (hop : o.op = .store ty x y) (hx : a.eval x = .pointer (some ⟨g, 0, none⟩)) (hy : a.eval y = .agg cs) (hb : Blk w g t old) (hi : (P.info? ty).map (·.size) = some cs.size) (hold : old.size = cs.size) (h1 : cs.all (·.oneCell') = true)
    (hw : Region.wanted o (yielded ops a.tmps) = true) (hR : R w (w.setRow g cs))
    (k : ∀ K : Act → World → Prop, (∀ a' w', wpSeq P ops R Q N r a' w' → K a' w') → K (a.put o.dst undef) (w.setRow g cs)) : wpSeq P ops R Q N ((o, true) :: r) a w :=
  seq_store (w.setRow g cs) hw (by
    unfold execOp
    simp only [hop, hx, hy, Instr.storeAt, Instr.sureAddr, Sem.run_bind, Sem.run_pure, Result.andThen_ok, run_storeVar_row w g t ty old cs hb hi hold h1]) hR k
end Go.Proofs.YtngioemeplllhaaDoor
