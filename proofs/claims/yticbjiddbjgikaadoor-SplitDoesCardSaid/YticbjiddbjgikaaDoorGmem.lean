/- Package mem: slices of cells as lists of pairs; the search by a closure. -/
import Derived.Test.YticbjiddbjgikaaDoorGtwo
import Derived.Test.YticbjiddbjgikaaDoorGagg
import Derived.Deep.Draws
import Derived.Test.YticbjiddbjgikaaDoorRows
import Derived.Laws.OwnMore
import Derived.OwnWalk
import Derived.Lib.AppendZerosOnto
import Derived.ProofKit
import Derived.WalkKit
import Derived.Maps.AppendAt
import Derived.Laws.CopyRow
import Derived.Laws.CopyOwn
namespace Go.Proofs.YticbjiddbjgikaaDoor
open Go.ChangeShapes Go.WideShapes Go.ChangeAt Go.RowKit
set_option linter.unusedVariables false
set_option maxRecDepth 10000

/-- the slice value with that address reads as those cells -/
def ClB (w : World) (A : Option Addr) (L : List (Nat × Nat)) : Prop :=
  0 < L.length → ∃ b off, A = some ⟨b, off, none⟩ ∧ b < w.heap.size ∧ ∀ i, i < L.length → w.cell? ⟨b, off + i * 2, none⟩ = some (.int .u64 ((atN L i : Nat) : Int)) ∧ w.cell? ⟨b, off + i * 2 + 1, none⟩ = some (.int .u64 ((vlN L i : Nat) : Int))
theorem ClB.ext {w w' : World} {A : Option Addr} {L : List (Nat × Nat)} (h : ClB w A L) (hb : Ext w w') : ClB w' A L := by
  intro hl
  obtain ⟨b, off, rfl, hlt, hc⟩ := h hl
  exact ⟨b, off, rfl, Nat.lt_of_lt_of_le hlt hb.size, fun i hi => ⟨(hb.cell (p := ⟨b, off + i * 2, none⟩) hlt).trans (hc i hi).1, (hb.cell (p := ⟨b, off + i * 2 + 1, none⟩) hlt).trans (hc i hi).2⟩⟩
/-- the closure of the search: is the cell number i at the place p or above? -/
theorem find1_c (ba bx b off c : Nat) (L : List (Nat × Nat)) (p i : Nat) (hi : i < L.length) (W : World)
    (ha : W.cell? ⟨ba, 0, none⟩ = some (.slice (some ⟨b, off, none⟩) L.length c)) (hx : W.cell? ⟨bx, 0, none⟩ = some (.int .u64 (p : Int))) (hc : W.cell? ⟨b, off + i * 2, none⟩ = some (.int .u64 ((atN L i : Nat) : Int))) :
    Calls Tryd.prog 94 #[.int .i64 i, .pointer (some ⟨ba, 0, none⟩), .pointer (some ⟨bx, 0, none⟩)] W fun e w' => e = .returned (.bool (decide (p ≤ atN L i))) ∧ ∃ q, w' = W.drewN q := by
  have hiz : (i : Int) < (L.length : Int) := by omega
  go_enter Tryd.func94, Tryd.ntmps94
  go_wp2
  go_quiet (fail)
  go_wp2
  go_ret
  exact ⟨by simp, _, rfl⟩

set_option maxHeartbeats 4000000 in
set_option maxRecDepth 100000 in
/-- sort.Search, over a closure that draws and lays nothing -/
theorem search_c (g : Nat) (cb : Array Value) (n : Nat) (p : Nat → Bool) (w : World) (hsz : n < 4611686018427387904)
    (eg : ∀ args w, (callFunc g args).run Tryd.prog w = .ok (.enter g args) w)
    (hf : ∀ (m : Nat) (i : Nat), i < n → Calls Tryd.prog g (#[.int .i64 i] ++ cb) (w.drewN m) fun e w' => e = .returned (.bool (p i)) ∧ ∃ q, w' = (w.drewN m).drewN q)
    (hmono : ∀ a b, a ≤ b → b < n → p a = true → p b = true) :
    Calls Tryd.prog 93 #[.int .i64 n, .func (.func g) #[] cb] w fun e w' => ∃ k : Nat, e = .returned (.int .i64 k) ∧ k ≤ n ∧ (∀ t, t < k → p t = false) ∧ (∀ t, k ≤ t → t < n → p t = true) ∧ ∃ q, w' = w.drewN q := by
  have HF := Lib.hid hf
  have HM := Lib.hid hmono
  clear hf hmono
  go_enter Tryd.func93, Tryd.ntmps93
  go_wp2
  go_loopw [5, 6] (fun lo hi wr => ∃ l h q : Nat, lo = .int .i64 l ∧ hi = .int .i64 h ∧ l ≤ h ∧ h ≤ n ∧ wr = w.drewN q ∧ Hid ((∀ t, t < l → p t = false) ∧ ∀ t, h ≤ t → t < n → p t = true)) (fun lo hi _ => (intOf hi - intOf lo).toNat)
  case atStart => exact ⟨0, n, 0, rfl, rfl, by omega, by omega, rfl, Lib.hid ⟨fun t ht => by omega, fun t h1 h2 => by omega⟩⟩
  case round =>
    obtain ⟨l, h, q, rfl, rfl, hlh, hh, rfl, I⟩ := hrel
    by_cases hlt : l < h
    · have hm : (((l + h) / 2 : Nat) : Int) = ((l : Int) + (h : Int)) / 2 := by omega
      have hcall := HF.out q ((l + h) / 2) (by omega)
      rw [hm] at hcall
      rcases hp : p ((l + h) / 2) with _ | _
      · rw [hp] at hcall
        have low : ∀ t, t < (l + h) / 2 + 1 → p t = false := by
          intro t ht
          rcases hq : p t with _ | _
          · rfl
          · have h1 := HM.out t ((l + h) / 2) (by omega) (by omega) hq
            rw [hp] at h1
            exact absurd h1 (by simp)
        have I2 : Hid ((∀ t, t < (l + h) / 2 + 1 → p t = false) ∧ ∀ t, h ≤ t → t < n → p t = true) := Lib.hid ⟨low, I.out.2⟩
        clear low
        clear hp
        go_wp2_with (refine hcall.mono ?_; rintro e w' ⟨rfl, nq, rfl⟩)
        go_roundw
        case rel => exact ⟨(l + h) / 2 + 1, h, q + nq, by rw [show ((l : Int) + (h : Int)) / 2 + 1 = (((l + h) / 2 + 1 : Nat) : Int) by omega], rfl, by omega, hh, by (rfl), I2⟩
        case measure => simp [intOf]; omega
      · rw [hp] at hcall
        have I2 : Hid ((∀ t, t < l → p t = false) ∧ ∀ t, (l + h) / 2 ≤ t → t < n → p t = true) := Lib.hid ⟨I.out.1, fun t ht ht2 => HM.out ((l + h) / 2) t ht ht2 hp⟩
        clear hp
        go_wp2_with (refine hcall.mono ?_; rintro e w' ⟨rfl, nq, rfl⟩)
        go_roundw
        case rel => exact ⟨l, (l + h) / 2, q + nq, rfl, by rw [show ((l : Int) + (h : Int)) / 2 = (((l + h) / 2 : Nat) : Int) by omega], by omega, by omega, by (rfl), I2⟩
        case measure => simp [intOf]; omega
    · obtain rfl : h = l := by omega
      go_wp2
      go_ret
      exact ⟨_, rfl, hh, I.out.1, I.out.2, q, rfl⟩


/-- how many cells lie below the place p -/
theorem find_c (A : Option Addr) (L : List (Nat × Nat)) (c p n : Nat) (hL : RL n L) (hsz : L.length < 4611686018427387904) (w : World) (hs : ClB w A L) :
    Calls Tryd.prog 76 #[.slice A L.length c, .int .u64 (p : Int)] w fun e w' => ∃ k : Nat, e = .returned (.int .i64 k) ∧ IsCut L p k ∧ Ext w w' := by
  obtain ⟨W0, hW0⟩ : ∃ W0, W0 = (w.alloc (.cells #[.slice A L.length c] 23)).alloc (.cells #[.int .u64 (p : Int)] 22) := ⟨_, rfl⟩
  have hE : Ext w W0 := by rw [hW0]; exact ((Ext.refl w).alloc _).alloc _
  have ca : W0.cell? ⟨w.heap.size, 0, none⟩ = some (.slice A L.length c) := by
    rw [hW0]; simp
  have cx : W0.cell? ⟨w.heap.size + 1, 0, none⟩ = some (.int .u64 (p : Int)) := by
    rw [hW0]; simp
  have hs0 := hs.ext hE
  have hS := search_c 94 #[.pointer (some ⟨w.heap.size, 0, none⟩), .pointer (some ⟨w.heap.size + 1, 0, none⟩)] L.length (fun i => decide (p ≤ atN L i)) W0 hsz (fun args w => run_callFunc Tryd.func94 (by kernel_rfl) (by kernel_rfl) args w)
    (fun m i hi => by
      obtain ⟨b, off, rfl, hb, hc⟩ := hs0 (by omega)
      exact (find1_c w.heap.size (w.heap.size + 1) b off c L p i hi (W0.drewN m) ca cx (hc i hi).1))
    (fun a b hab hb ha => by
      rcases Nat.lt_or_eq_of_le hab with h | rfl
      · have := hL.rise h hb
        simp at ha ⊢; omega
      · exact ha)
  clear ca cx hs0 hs
  have HE := Lib.hid hE
  clear hE
  go_enter Tryd.func76, Tryd.ntmps76
  go_wp2_with (go_at_call 93; rw [← hW0]; refine hS.mono ?_; rintro e w' ⟨k, rfl, hk, h1, h2, q, rfl⟩)
  go_ret
  exact ⟨k, rfl, ⟨hk, fun t ht => by have := h1 t ht; simp at this; omega, fun t ht ht2 => by have := h2 t ht ht2; simp at this; omega⟩, by rw [← hW0]; exact HE.out.drewN q⟩
end Go.Proofs.YticbjiddbjgikaaDoor
/- Package mem: Word, wrong, Load. -/
namespace Go.Proofs.YticbjiddbjgikaaDoor
open Go.ChangeShapes Go.WideShapes Go.ChangeAt Go.RowKit
set_option linter.unusedVariables false
set_option maxRecDepth 10000

theorem box_mem {w w1 : World} {t : TypeId} {u v : Value} (h : Ext (w.alloc (.cells #[u, v] t)) w1) :
    w1.cell? ⟨w.heap.size, 0, none⟩ = some u ∧ w1.cell? ⟨w.heap.size, 1, none⟩ = some v :=
  ⟨(h.cell (p := ⟨w.heap.size, 0, none⟩) (by simp)).trans (by simp), (h.cell (p := ⟨w.heap.size, 1, none⟩) (by simp)).trans (by simp)⟩

set_option maxRecDepth 100000 in
theorem word_c (S : Nat) (A : Option Addr) (L : List (Nat × Nat)) (c a n : Nat) (a1 : a < 18446744073709551616) (hL : RL n L) (hsz : L.length < 4611686018427387904) (w : World) (hs : ClB w A L) :
    Calls Tryd.prog 57 #[.agg #[.int .u64 (S : Int), .slice A L.length c], .int .u64 (a : Int)] w fun e w' => e = .returned (.int .u64 ((wordL L (a / 8) : Nat) : Int)) ∧ Ext w w' := by
  go_enter Tryd.func57, Tryd.ntmps57
  go_wp2_with fail
  refine (find_c A L c (a / 8) n hL hsz _ (hs.ext ((Ext.refl w).alloc _))).mono ?_
  rintro e w1 ⟨k, rfl, hcut, hE⟩
  obtain ⟨_, hb1⟩ := box_mem hE
  have hE1 : Hid (Ext w w1) := Lib.hid (((Ext.refl w).alloc _).trans hE)
  have hs1 := hs.ext hE1.out
  have hk0 := hcut.1
  by_cases hk : k = L.length
  · have H := Lib.hid (hcut.none hL (.inl hk))
    have hd : decide ((k : Int) = (L.length : Int)) = true := by simp; omega
    go_wp2
    go_ret
    exact ⟨by rw [H.out]; rfl, hE1.out⟩
  · have hlt : k < L.length := by omega
    have hd : decide ((k : Int) = (L.length : Int)) = false := by simp; omega
    obtain ⟨b, off, rfl, hb, hc⟩ := hs1 (by omega)
    obtain ⟨hc1, hc2⟩ := hc k hlt
    have hz : (k : Int) < (L.length : Int) := by omega
    by_cases he : atN L k = a / 8
    · have H := Lib.hid (hcut.word hL hlt he)
      have hd2 : (((atN L k : Nat) : Int) != (a : Int) / 8) = false := by simp; omega
      go_wp2
      go_ret
      exact ⟨by rw [H.out]; rfl, hE1.out⟩
    · have H := Lib.hid (hcut.none hL (.inr he))
      have hd2 : (((atN L k : Nat) : Int) != (a : Int) / 8) = true := by simp; omega
      go_wp2
      go_ret
      exact ⟨by rw [H.out]; rfl, hE1.out⟩

/-- why there are no bytes -/
def errN (n : Int) (a S : Nat) : Nat := if sizeB n = false then 1 else if a % n.toNat ≠ 0 then 2 else if S ≤ a then 3 else 0
theorem errN_1 {n : Int} {a S : Nat} (h : sizeB n = false) : errN n a S = 1 := by unfold errN; rw [if_pos h]
theorem errN_2 {s a S : Nat} (h : IsSize s) (h2 : a % s ≠ 0) : errN s a S = 2 := by unfold errN; rw [if_neg (by simp [h.b]), Int.toNat_natCast, if_pos h2]
theorem errN_3 {s a S : Nat} (h : IsSize s) (h2 : a % s = 0) (h3 : S ≤ a) : errN s a S = 3 := by unfold errN; rw [if_neg (by simp [h.b]), if_neg (by simp; exact h2), if_pos h3]
theorem errN_0 {s a S : Nat} (h : IsSize s) (h2 : a % s = 0) (h3 : a < S) : errN s a S = 0 := by unfold errN; rw [if_neg (by simp [h.b]), if_neg (by simp; exact h2), if_neg (by omega)]
theorem sizeB_int {n : Int} (h : sizeB n = true) : ∃ s : Nat, n = s ∧ IsSize s := by
  simp only [sizeB, Bool.or_eq_true, beq_iff_eq] at h
  rcases h with ((rfl | rfl) | rfl) | rfl
  · exact ⟨1, rfl, .inl rfl⟩
  · exact ⟨2, rfl, .inr (.inl rfl)⟩
  · exact ⟨4, rfl, .inr (.inr (.inl rfl))⟩
  · exact ⟨8, rfl, .inr (.inr (.inr rfl))⟩
/-- the four ways -/
theorem errN_ways (n : Int) (a S : Nat) : (sizeB n = false ∧ errN n a S = 1) ∨ ∃ s : Nat, n = s ∧ IsSize s ∧ ((a % s ≠ 0 ∧ errN n a S = 2) ∨ (a % s = 0 ∧ S ≤ a ∧ errN n a S = 3) ∨ (a % s = 0 ∧ a < S ∧ errN n a S = 0)) := by
  cases h : sizeB n with
  | false => exact .inl ⟨rfl, errN_1 h⟩
  | true =>
    obtain ⟨s, rfl, hs⟩ := sizeB_int h
    refine .inr ⟨s, rfl, hs, ?_⟩
    by_cases h2 : a % s = 0
    · by_cases h3 : S ≤ a
      · exact .inr (.inl ⟨h2, h3, errN_3 hs h2 h3⟩)
      · exact .inr (.inr ⟨h2, by omega, errN_0 hs h2 (by omega)⟩)
    · exact .inl ⟨h2, errN_2 hs h2⟩
attribute [irreducible] errN

set_option maxRecDepth 100000 in
theorem wrong_c (S : Nat) (A : Option Addr) (m c a : Nat) (n : Int) (a1 : a < 18446744073709551616) (w : World) :
    Calls Tryd.prog 85 #[.agg #[.int .u64 (S : Int), .slice A m c], .int .u64 (a : Int), .int .i64 n] w fun e w' => e = .returned (.int .i64 ((errN n a S : Nat) : Int)) ∧ Ext w w' := by
  have hE : Hid (Ext w (w.alloc (.cells #[.int .u64 (S : Int), .slice A m c] 25))) := Lib.hid ((Ext.refl w).alloc _)
  rcases errN_ways n a S with ⟨h, he⟩ | ⟨s, rfl, hs, hw⟩
  · have H := Lib.hid he
    go_enter Tryd.func85, Tryd.ntmps85
    go_wp2_with (go_at_call 102; refine (size_c _ _).mono ?_; rintro e w' ⟨rfl, rfl⟩)
    go_ret
    exact ⟨(congrArg (fun k : Nat => Ending.returned (.int .i64 (k : Int))) H.out).symm, hE.out⟩
  · have hsz : sizeB (s : Int) = true := hs.b
    rcases hs with rfl | rfl | rfl | rfl
    all_goals
      rcases hw with ⟨h2, he⟩ | ⟨h2, h3, he⟩ | ⟨h2, h3, he⟩
      all_goals
        have H := Lib.hid he
        go_enter Tryd.func85, Tryd.ntmps85
        go_wp2_with (go_at_call 102; refine (size_c _ _).mono ?_; rintro e w' ⟨rfl, rfl⟩)
        all_goals go_ret
        all_goals exact ⟨(congrArg (fun k : Nat => Ending.returned (.int .i64 (k : Int))) H.out).symm, hE.out⟩

theorem getrow_c (A : Option Addr) (f : Nat → Nat) (s c : Nat) (hf : ∀ k, f k < 256) (hs : s ≤ 8) (w : World) (h : SlB w A (rowN f s)) :
    Calls Tryd.prog 87 #[.slice A s c] w fun e w' => e = .returned (.int .u64 ((numN (rowN f s) : Nat) : Int)) ∧ w = w' := by
  have := bget_c A (rowN f s) c (rowN_is hf s) (by rw [rowN_len]; omega) w h
  rwa [List.take_of_length_le (by rw [rowN_len]; exact hs), rowN_len] at this

end Go.Proofs.YticbjiddbjgikaaDoor
/- A slice that the call itself makes, by append: carried on to later worlds; an append of one number. -/
namespace Go.Proofs.YticbjiddbjgikaaDoor
open Go.ChangeShapes Go.WideShapes Go.ChangeAt Go.RowKit
set_option linter.unusedVariables false
set_option linter.unusedSimpArgs false

theorem own_ext {w w' : World} {b : Nat} {e : TypeId} {size n : Nat} {v : Value} {xs : List Value} (h : w.ownsRow b e size v n xs) (hE : Ext w w') : w'.ownsRow b e size v n xs := by
  refine ⟨h.1, ?_⟩
  rcases h.2 with h0 | ⟨g, cap, cur, hv, hbg, hg, h3⟩
  · exact .inl h0
  · exact .inr ⟨g, cap, cur, hv, hbg, (hE.block g (Array.getElem?_eq_some_iff.1 hg).1).trans hg, h3⟩
theorem Blk.below {w w' : World} {B g : Nat} {t : TypeId} {cs : Array Value} (h : Blk w g t cs) (hE : Below B w w') (hg : g < B) : Blk w' g t cs := (hE.block g hg).trans h

theorem wpList_append_run' {P : Program} (w : World) {ops : Array Oper} {rest : List Oper} {o : Oper} {a : Act} {Q : Exit → Act → World → Prop} (hg : o.guard = none) (s x : Operand) (t : TypeId)
    (ho : o.op = .call { callee := .builtin .append, args := #[s, x], argTypes := #[t, t] }) (u y : Value) (hs : a.eval s = u) (hx : a.eval x = y) (S : Value → World → Prop)
    (hrun : ∃ v' w', (Builtin.append_ #[t, t] o.type #[u, y]).run P w = .ok v' w' ∧ S v' w') (h : ∀ v' w', S v' w' → wpList P ops Q rest (a.put o.dst v') w') : wpList P ops Q (o :: rest) a w := by
  obtain ⟨v', w', hr, hS⟩ := hrun
  exact Lib.wpList_append_run w hg s x t _ ho u y hs hx v' w' hr (h v' w' hS)

theorem u64_info : (Tryd.prog.info? 22).map (fun i => (i.zero, i.size, i.bytes)) = some (some (.int .u64 0), 1, 8) := by kernel_rfl
theorem run_append_u64 (w : World) (base : Nat) (x : Value) (n : Nat) (xs : List Value) (hown : w.ownsRow base 22 1 x n xs) (z : Int) (hn : n ≤ 90000) (hb : base ≤ w.heap.size) (ty : TypeId) :
    ∃ v' w', (Builtin.append_ #[59, 59] ty #[x, .slice (some ⟨w.heap.size, 0, none⟩) 1 1]).run Tryd.prog (w.alloc (.cells #[.int .u64 z] 22)) = .ok v' w' ∧
      w'.ownsRow base 22 1 v' (n + 1) (xs ++ [.int .u64 z]) ∧ Below base w w' ∧ ∀ b, b < w.heap.size → x.ownBlock ≠ some b → w'.heap[b]? = w.heap[b]? := by
  obtain ⟨i0, hi, hz0, hz1, hz2⟩ := info_parts u64_info
  obtain ⟨v', w', h1, h2, h3, _⟩ := run_append_own (P := Tryd.prog) (w.alloc (.cells #[.int .u64 z] 22)) base 59 ty 22 i0 _ 1 8 Tryd.underlying59 hi hz0 hz1 hz2 rfl (by decide) x n xs (hown.alloc _) ⟨w.heap.size, 0, none⟩ 1 1 [.int .u64 z]
    rfl (by
      intro j u hj
      have hj0 : j = 0 := by
        have := (List.getElem?_eq_some_iff.1 hj).1
        simpa using this
      subst hj0
      have e : (⟨w.heap.size, 0, none⟩ : Addr).add 0 = ⟨w.heap.size, 0, none⟩ := by unfold Addr.add; split <;> simp_all
      rw [e, cell_of_row _ _ _ _ _ _ (heap_alloc_new w _)]
      simpa using hj)
    (by intro u hu; simp only [List.mem_singleton] at hu; subst hu; rfl) (by unfold maxLen; omega) (by omega) (by rw [World.size_alloc]; omega)
  exact ⟨v', w', h1, h2, Below.grown (Below.alloc (Below.refl _ _) hb _) h3 (by rw [World.size_alloc]; omega) (fun g h => (hown.lt g h).1), fun b hb hn => (h3.block b (by rw [World.size_alloc]; omega) (fun e => hn e.symm)).trans (Below.heap_alloc w _ b hb)⟩
end Go.Proofs.YticbjiddbjgikaaDoor
/- Slices of cells laid one behind the other: slices.Grow, slices.Concat. -/
namespace Go.Proofs.YticbjiddbjgikaaDoor
open Go.ChangeShapes Go.WideShapes Go.ChangeAt Go.RowKit
set_option linter.unusedVariables false
set_option maxRecDepth 10000
set_option linter.unusedSimpArgs false

/-- the cells of a list, as values -/
def cellVs (L : List (Nat × Nat)) : List Value := L.flatMap fun c => [Value.int .u64 (c.1 : Int), Value.int .u64 (c.2 : Int)]
theorem cellVs_len (L : List (Nat × Nat)) : (cellVs L).length = L.length * 2 := by
  induction L with
  | nil => rfl
  | cons c r ih => unfold cellVs at ih ⊢; rw [List.flatMap_cons, List.length_append, ih, List.length_cons]; simp; omega
theorem cellVs_app (K L : List (Nat × Nat)) : cellVs (K ++ L) = cellVs K ++ cellVs L := by simp [cellVs]
theorem cellVs_get : ∀ (L : List (Nat × Nat)) (i : Nat), i < L.length → (cellVs L)[i * 2]? = some (.int .u64 ((atN L i : Nat) : Int)) ∧ (cellVs L)[i * 2 + 1]? = some (.int .u64 ((vlN L i : Nat) : Int))
  | [], i, h => by simp at h
  | c :: r, 0, _ => by simp [cellVs, atN, vlN]
  | c :: r, i + 1, h => by
    have := cellVs_get r i (by simpa using h)
    have e1 : atN (c :: r) (i + 1) = atN r i := by unfold atN; simp
    have e2 : vlN (c :: r) (i + 1) = vlN r i := by unfold vlN; simp
    rw [e1, e2, show (i + 1) * 2 = i * 2 + 2 by omega, show i * 2 + 2 + 1 = i * 2 + 1 + 2 by omega]
    unfold cellVs at this ⊢
    simpa using this
theorem cellVs_one (L : List (Nat × Nat)) : ∀ u ∈ cellVs L, u.oneCell' = true := by
  intro u hu
  simp only [cellVs, List.mem_flatMap] at hu
  obtain ⟨c, _, h⟩ := hu
  simp at h
  rcases h with rfl | rfl <;> rfl

/-- the slice reads as those cells, and may be cut and appended -/
def RowL (w : World) (A : Option Addr) (L : List (Nat × Nat)) (c : Nat) : Prop := ClB w A L ∧ (A = none → L = [] ∧ c = 0) ∧ L.length ≤ c ∧ c ≤ 9223372036854775807
theorem RowL.ext {w w' : World} {A : Option Addr} {L : List (Nat × Nat)} {c : Nat} (h : RowL w A L c) (hb : Ext w w') : RowL w' A L c := ⟨h.1.ext hb, h.2⟩
theorem RowL.nil (w : World) : RowL w none [] 0 := ⟨fun h => absurd h (by simp), fun _ => ⟨rfl, rfl⟩, by simp, by omega⟩

theorem cell_info : (Tryd.prog.info? 68).map (fun i => (i.zero, i.size, i.bytes)) = some (some (.agg #[.int .u64 0, .int .u64 0]), 2, 16) := by kernel_rfl

theorem own_row {w : World} {base : Nat} {v : Value} {L : List (Nat × Nat)} (h : w.ownsRow base 68 2 v L.length (cellVs L)) : ∃ A c, v = .slice A L.length c ∧ RowL w A L c := by
  rcases h.2 with ⟨rfl, h0⟩ | ⟨g, cap, cur, rfl, hbg, hh, hcl, hcm, _, ht⟩
  · have : L = [] := List.eq_nil_of_length_eq_zero h0
    subst this
    exact ⟨none, 0, rfl, RowL.nil w⟩
  · refine ⟨_, cap, rfl, ⟨fun hl => ⟨g, 0, rfl, (h.lt g rfl).2, fun i hi => ?_⟩, fun e => (by cases e), hcl, by unfold maxLen at hcm; omega⟩⟩
    obtain ⟨h1, h2⟩ := cellVs_get L i hi
    exact ⟨by rw [Nat.zero_add, h.cellAt (i * 2) (by omega), h1], by rw [Nat.zero_add, h.cellAt (i * 2 + 1) (by omega), h2]⟩

theorem run_append_cl (w : World) (base : Nat) (v : Value) (n : Nat) (xs : List Value) (hown : w.ownsRow base 68 2 v n xs) (A : Option Addr) (L : List (Nat × Nat)) (c : Nat) (hr : RowL w A L c)
    (hn : n + L.length ≤ 100000) (hb : base ≤ w.heap.size) (ty : TypeId) :
    ∃ v' w', (Builtin.append_ #[23, 23] ty #[v, .slice A L.length c]).run Tryd.prog w = .ok v' w' ∧ w'.ownsRow base 68 2 v' (n + L.length) (xs ++ cellVs L) ∧ w.grownBy w' v.ownBlock := by
  obtain ⟨i0, hi, hz0, hz1, hz2⟩ := info_parts cell_info
  rcases A with _ | a
  · obtain ⟨rfl, rfl⟩ := hr.2.1 rfl
    exact ⟨v, w, run_append_owned_none w base 23 ty 68 i0 2 Tryd.underlying23 hi v n xs hown, by simpa [cellVs] using hown, World.grownBy.refl w _⟩
  · obtain ⟨v', w', h1, h2, h3, _⟩ := run_append_own_at (P := Tryd.prog) w base 23 ty 68 i0 _ 2 16 Tryd.underlying23 hi hz0 hz1 hz2 rfl (by decide) v n xs hown a L.length c (cellVs L)
      (by rw [cellVs_len]) (by
        intro j u hj
        have hjl : j < L.length * 2 := by
          rcases Nat.lt_or_ge j (L.length * 2) with h | h
          · exact h
          · rw [List.getElem?_eq_none (by rw [cellVs_len]; exact h)] at hj; cases hj
        obtain ⟨b, off, e, _, hcell⟩ := hr.1 (by omega)
        injection e with e
        subst e
        have e2 : (⟨b, off, none⟩ : Addr).add j = ⟨b, off + j, none⟩ := by unfold Addr.add; split <;> simp_all
        obtain ⟨h1, h2⟩ := hcell (j / 2) (by omega)
        obtain ⟨g1, g2⟩ := cellVs_get L (j / 2) (by omega)
        rw [e2]
        rcases Nat.mod_two_eq_zero_or_one j with hm | hm
        · rw [show j / 2 * 2 = j by omega] at h1 g1
          rw [h1, ← g1, hj]
        · rw [show off + j / 2 * 2 + 1 = off + j by omega] at h2
          rw [show j / 2 * 2 + 1 = j by omega] at g2
          rw [h2, ← g2, hj]) (cellVs_one L) (by unfold maxLen; omega) (by omega) hb
    exact ⟨v', w', h1, h2, h3⟩

/-- slices.Grow of nil -/
theorem grow_c (n : Nat) (hn : n ≤ 100000) (w : World) :
    Calls Tryd.prog 107 #[.slice none 0 0, .int .i64 (n : Int)] w fun e w' => ∃ v, e = .returned v ∧ w'.ownsRow w.heap.size 68 2 v 0 [] ∧ Ext w w' := by
  by_cases h0 : n = 0
  · subst h0
    go_enter Tryd.func107, Tryd.ntmps107
    go_wp2
    go_ret
    exact ⟨_, rfl, World.ownsRow_nil _ _ _ _, Ext.refl _⟩
  · obtain ⟨i0, hi, hz0, hz1, hz2⟩ := info_parts cell_info
    have hrun : ∀ ty, (Builtin.append_ #[23, 3] ty #[.slice none 0 0, .int .i64 (n : Int)]).run Tryd.prog w = .ok (.slice (some ⟨w.heap.size, 0, none⟩) n (grownCap w n 0 68))
        (w.drew.alloc (.cells ((#[] : Array Value) ++ Builtin.zeroCells (Value.agg #[.int .u64 0, .int .u64 0]).cells n ++ Builtin.zeroCells (Value.agg #[.int .u64 0, .int .u64 0]).cells (grownCap w n 0 68 - n)) 68)) := fun ty => by
      have h := Lib.run_append_grow_zeros (P := Tryd.prog) w 23 3 ty 68 i0 _ .i64 .i64 Tryd.underlying23 Tryd.underlying3 hi hz0 none 0 0 [] (run_firstCells_none w.drew _ 0 0 0) n (by omega) (by omega) (by omega) (by omega) (by rw [hz2]; omega)
        (by exact growslice_fits (by omega) (by rw [hz2]; omega))
      rw [Nat.zero_add] at h
      exact h
    obtain ⟨G, hG⟩ : ∃ G, G = grownCap w n 0 68 := ⟨_, rfl⟩
    have hGn : n ≤ G := by rw [hG]; exact grownCap_ge w _ _ _
    have hGm : G ≤ maxLen := by rw [hG]; exact grownCap_le_maxLen w n 0 68 (by unfold maxLen; omega)
    rw [← hG] at hrun
    obtain ⟨cur, hcur⟩ : ∃ cur, cur = (#[] : Array Value) ++ Builtin.zeroCells (Value.agg #[.int .u64 0, .int .u64 0]).cells n ++ Builtin.zeroCells (Value.agg #[.int .u64 0, .int .u64 0]).cells (G - n) := ⟨_, rfl⟩
    have hsz : cur.size = G * 2 := by
      rw [hcur]
      simp only [Array.size_append, size_zeroCells]
      simp [Value.cells]; omega
    rw [← hcur] at hrun
    clear hcur hi hz0 hz1 hz2 hG
    have hp : (n : Int) > 0 := by omega
    have hG63 : G ≤ 9223372036854775807 := by unfold maxLen at hGm; omega
    go_enter Tryd.func107, Tryd.ntmps107
    go_wp2_with (at_builtin; refine Lib.wpList_append_run _ rfl _ _ _ _ rfl _ _ rfl rfl _ _ (hrun _) ?_)
    go_ret
    exact ⟨_, rfl, World.ownsRow_made w.drew cur G (by simp) hGm hsz, ((Ext.refl w).drew).alloc _⟩

/-- what a call that makes cells leaves -/
def MadeC (L : List (Nat × Nat)) (w : World) (e : Ending) (w' : World) : Prop :=
  ∃ v, e = .returned v ∧ w'.ownsRow w.heap.size 68 2 v L.length (cellVs L) ∧ Ext w w'

def catK (L1 L2 L3 : List (Nat × Nat)) : Nat → List (Nat × Nat)
  | 0 => []
  | 1 => L1
  | 2 => L1 ++ L2
  | _ => L1 ++ (L2 ++ L3)

set_option maxRecDepth 100000 in
set_option maxHeartbeats 4000000 in
theorem concat_c (b : Nat) (A1 A2 A3 : Option Addr) (L1 L2 L3 : List (Nat × Nat)) (c1 c2 c3 : Nat) (w : World) (hb : b < w.heap.size)
    (h1 : w.cell? ⟨b, 0, none⟩ = some (.slice A1 L1.length c1)) (h2 : w.cell? ⟨b, 1, none⟩ = some (.slice A2 L2.length c2)) (h3 : w.cell? ⟨b, 2, none⟩ = some (.slice A3 L3.length c3))
    (r1 : RowL w A1 L1 c1) (r2 : RowL w A2 L2 c2) (r3 : RowL w A3 L3 c3) (hn : L1.length + L2.length + L3.length ≤ 100000) :
    Calls Tryd.prog 103 #[.slice (some ⟨b, 0, none⟩) 3 3] w (MadeC (L1 ++ (L2 ++ L3)) w) := by
  go_enter Tryd.func103, Tryd.ntmps103
  go_wp2
  go_loop [3, 11] (fun z i => ∃ k : Nat, k ≤ 3 ∧ i = .int .i64 k ∧ z = .int .i64 ((((if 0 < k then L1.length else 0) + (if 1 < k then L2.length else 0) + (if 2 < k then L3.length else 0) : Nat)) : Int)) (fun _ i => (3 - intOf i).toNat)
  case atStart => exact ⟨0, by omega, rfl, rfl⟩
  case round =>
    obtain ⟨k, hk, rfl, rfl⟩ := hrel
    rcases (show k = 0 ∨ k = 1 ∨ k = 2 ∨ k = 3 by omega) with rfl | rfl | rfl | rfl
    · simp only [Nat.lt_irrefl, if_false, Nat.not_lt_zero, Nat.add_zero]
      have hd : decide (((L1.length : Int) : Int) < 0) = false := by simp only [decide_eq_false_iff_not]; omega
      go_wp2
      go_round
      case rel => exact ⟨1, by omega, rfl, by simp⟩
      case measure => simp [intOf]
    · simp only [Nat.lt_irrefl, if_false, Nat.add_zero, Nat.reduceLT, if_true]
      have hd : decide (((L1.length : Int) + (L2.length : Int) : Int) < 0) = false := by simp only [decide_eq_false_iff_not]; omega
      go_wp2
      go_round
      case rel => exact ⟨2, by omega, rfl, by simp⟩
      case measure => simp [intOf]
    · simp only [Nat.lt_irrefl, if_false, Nat.add_zero, Nat.reduceLT, if_true]
      have hd : decide (((L1.length : Int) + (L2.length : Int) + (L3.length : Int) : Int) < 0) = false := by simp only [decide_eq_false_iff_not]; omega
      go_wp2
      go_round
      case rel => exact ⟨3, by omega, rfl, by simp⟩
      case measure => simp [intOf]
    · simp only [Nat.reduceLT, if_true]
      go_wp2_with fail
      refine (grow_c _ hn _).mono ?_
      rintro e w1 ⟨v, rfl, hown, hE⟩
      go_wp2
      go_loopw [6, 27] (fun out i wr => ∃ k : Nat, k ≤ 3 ∧ i = .int .i64 k ∧ wr.ownsRow w.heap.size 68 2 out (catK L1 L2 L3 k).length (cellVs (catK L1 L2 L3 k)) ∧ Ext w wr) (fun _ i _ => (3 - intOf i).toNat)
      case atStart => exact ⟨0, by omega, rfl, hown, hE⟩
      case round =>
        obtain ⟨k, hk, rfl, hown2, hE2⟩ := hrel
        have hc1 : wr.cell? ⟨b, 0, none⟩ = some (.slice A1 L1.length c1) := (hE2.cell (p := ⟨b, 0, none⟩) hb).trans h1
        have hc2 : wr.cell? ⟨b, 1, none⟩ = some (.slice A2 L2.length c2) := (hE2.cell (p := ⟨b, 1, none⟩) hb).trans h2
        have hc3 : wr.cell? ⟨b, 2, none⟩ = some (.slice A3 L3.length c3) := (hE2.cell (p := ⟨b, 2, none⟩) hb).trans h3
        rcases (show k = 0 ∨ k = 1 ∨ k = 2 ∨ k = 3 by omega) with rfl | rfl | rfl | rfl
        · have hr := r1.ext hE2
          go_wp2_with (at_builtin; refine wpList_append_run' _ rfl _ _ _ rfl _ _ rfl rfl _ (run_append_cl wr w.heap.size _ _ _ hown2 A1 L1 c1 hr (by simp [catK]; omega) hE2.size _) ?_; rintro v3 w3 ⟨hown3, hgr⟩)
          have hE3 : Ext w w3 := Below.grown hE2 hgr hE2.size (fun k h => (hown2.lt k h).1)
          rw [← cellVs_app] at hown3
          have Ho := Lib.hid hown3
          clear hown3 hown2 hgr
          go_roundw
          case rel => exact ⟨1, by omega, rfl, by have := Ho.out; simpa [catK, Nat.add_assoc] using this, hE3⟩
          case measure => simp [intOf]
        · have hr := r2.ext hE2
          go_wp2_with (at_builtin; refine wpList_append_run' _ rfl _ _ _ rfl _ _ rfl rfl _ (run_append_cl wr w.heap.size _ _ _ hown2 A2 L2 c2 hr (by simp [catK]; omega) hE2.size _) ?_; rintro v3 w3 ⟨hown3, hgr⟩)
          have hE3 : Ext w w3 := Below.grown hE2 hgr hE2.size (fun k h => (hown2.lt k h).1)
          rw [← cellVs_app] at hown3
          have Ho := Lib.hid hown3
          clear hown3 hown2 hgr
          go_roundw
          case rel => exact ⟨2, by omega, rfl, by have := Ho.out; simpa [catK, Nat.add_assoc] using this, hE3⟩
          case measure => simp [intOf]
        · have hr := r3.ext hE2
          go_wp2_with (at_builtin; refine wpList_append_run' _ rfl _ _ _ rfl _ _ rfl rfl _ (run_append_cl wr w.heap.size _ _ _ hown2 A3 L3 c3 hr (by simp [catK]; omega) hE2.size _) ?_; rintro v3 w3 ⟨hown3, hgr⟩)
          have hE3 : Ext w w3 := Below.grown hE2 hgr hE2.size (fun k h => (hown2.lt k h).1)
          rw [← cellVs_app] at hown3
          have Ho := Lib.hid hown3
          clear hown3 hown2 hgr
          go_roundw
          case rel => exact ⟨3, by omega, rfl, by have := Ho.out; simpa [catK, Nat.add_assoc] using this, hE3⟩
          case measure => simp [intOf]
        · have Ho := Lib.hid hown2
          clear hown2
          go_wp2
          go_ret
          exact ⟨_, rfl, Ho.out, hE2⟩
end Go.Proofs.YticbjiddbjgikaaDoor
/- Package mem: instead, Clear, Store. -/
namespace Go.Proofs.YticbjiddbjgikaaDoor
open Go.ChangeShapes Go.WideShapes Go.ChangeAt Go.RowKit
set_option linter.unusedVariables false
set_option maxRecDepth 10000
set_option linter.unusedSimpArgs false

/-- what a call that makes a memory leaves -/
def MadeM (S : Nat) (L : List (Nat × Nat)) (w : World) (e : Ending) (w' : World) : Prop :=
  ∃ v, e = .returned (.agg #[.int .u64 (S : Int), v]) ∧ w'.ownsRow w.heap.size 68 2 v L.length (cellVs L) ∧ Ext w w'

theorem RowL.take {w : World} {A : Option Addr} {L : List (Nat × Nat)} {c : Nat} (h : RowL w A L c) {k : Nat} (hk : k ≤ L.length) : RowL w A (L.take k) c := by
  refine ⟨fun hl => ?_, fun e => ?_, by rw [List.length_take]; have := h.2.2.1; omega, h.2.2.2⟩
  · have hlen : (L.take k).length = k := by simp; omega
    rw [hlen] at hl ⊢
    obtain ⟨b, off, rfl, hb, hc⟩ := h.1 (by omega)
    refine ⟨b, off, rfl, hb, fun i hi => ?_⟩
    have e1 : atN (L.take k) i = atN L i := by unfold atN; simp [List.getD, hi]
    have e2 : vlN (L.take k) i = vlN L i := by unfold vlN; simp [List.getD, hi]
    rw [e1, e2]; exact hc i (by omega)
  · obtain ⟨rfl, rfl⟩ := h.2.1 e
    simp
theorem RowL.drop {w : World} {a : Addr} {L : List (Nat × Nat)} {c : Nat} (h : RowL w (some a) L c) {k : Nat} (hk : k ≤ L.length) : RowL w (if c = k then some a else some (a.add (k * 2))) (L.drop k) (c - k) := by
  refine ⟨fun hl => ?_, fun e => ?_, by rw [List.length_drop]; have := h.2.2.1; omega, by have := h.2.2.2; omega⟩
  · rw [List.length_drop] at hl ⊢
    obtain ⟨b, off, e, hb, hc⟩ := h.1 (by omega)
    injection e with e
    subst e
    have h4 := h.2.2.1
    have e0 : (⟨b, off, none⟩ : Addr).add (k * 2) = ⟨b, off + k * 2, none⟩ := by unfold Addr.add; split <;> simp_all
    rw [if_neg (by omega), e0]
    refine ⟨b, off + k * 2, rfl, hb, fun i hi => ?_⟩
    have e1 : atN (L.drop k) i = atN L (k + i) := by unfold atN; simp [List.getD]
    have e2 : vlN (L.drop k) i = vlN L (k + i) := by unfold vlN; simp [List.getD]
    have := hc (k + i) (by omega)
    rw [show off + (k + i) * 2 = off + k * 2 + i * 2 by omega] at this
    rw [e1, e2]; exact this
  · split at e <;> cases e

theorem RowL.drop_c {w : World} {a : Addr} {L : List (Nat × Nat)} {c : Nat} (h : RowL w (some a) L c) {k : Nat} (hk : k ≤ L.length) (e : c = k) : RowL w (some a) (L.drop k) 0 := by
  have := h.drop hk
  rwa [if_pos e, show c - k = 0 by omega] at this
theorem RowL.drop_n {w : World} {a : Addr} {L : List (Nat × Nat)} {c : Nat} (h : RowL w (some a) L c) {k : Nat} (hk : k ≤ L.length) (e : ¬ c = k) : RowL w (some (a.add (k * 2))) (L.drop k) (c - k) := by
  have := h.drop hk
  rwa [if_neg e] at this
theorem find_n (A : Option Addr) (L : List (Nat × Nat)) (len c p n : Nat) (hl : L.length = len) (hL : RL n L) (hsz : L.length < 4611686018427387904) (w : World) (hs : RowL w A L c) :
    Calls Tryd.prog 76 #[.slice A len c, .int .u64 (p : Int)] w fun e w' => ∃ k : Nat, e = .returned (.int .i64 k) ∧ IsCut L p k ∧ Ext w w' := by
  subst hl; exact find_c A L c p n hL hsz w hs.1
theorem concat_n (b : Nat) (A1 A2 A3 : Option Addr) (L1 L2 L3 : List (Nat × Nat)) (n1 n2 n3 c1 c2 c3 : Nat) (l1 : L1.length = n1) (l2 : L2.length = n2) (l3 : L3.length = n3) (w : World) (hb : b < w.heap.size)
    (h1 : w.cell? ⟨b, 0, none⟩ = some (.slice A1 n1 c1)) (h2 : w.cell? ⟨b, 1, none⟩ = some (.slice A2 n2 c2)) (h3 : w.cell? ⟨b, 2, none⟩ = some (.slice A3 n3 c3))
    (r1 : RowL w A1 L1 c1) (r2 : RowL w A2 L2 c2) (r3 : RowL w A3 L3 c3) (hn : L1.length + L2.length + L3.length ≤ 100000) :
    Calls Tryd.prog 103 #[.slice (some ⟨b, 0, none⟩) 3 3] w (MadeC (L1 ++ (L2 ++ L3)) w) := by
  subst l1 l2 l3; exact concat_c b A1 A2 A3 L1 L2 L3 c1 c2 c3 w hb h1 h2 h3 r1 r2 r3 hn

theorem frozen_of_row (w : World) (g j : Nat) (cs : Array Value) (t : TypeId) (hg : w.heap[g]? = some (.cells cs t (0, 0))) : w.frozen? ⟨g, j, none⟩ = false := by
  simp [World.frozen?, hg]
theorem inst_blk {w w1 w2 w' : World} {o1 o2 o3 : Obj} (hE1 : Ext ((w.alloc o1).alloc o2) w1) (hE3 : Ext w1 w2) (hE4 : Ext (w2.drew.alloc o3) w') : w'.heap[w.heap.size + 1]? = some o2 := by
  have s1 := hE1.size
  rw [World.size_alloc, World.size_alloc] at s1
  have s3 := hE3.size
  have h1 : w1.heap[w.heap.size + 1]? = some o2 := by
    rw [hE1.block (w.heap.size + 1) (by rw [World.size_alloc, World.size_alloc]; omega)]
    have := heap_alloc_new (w.alloc o1) o2
    rwa [World.size_alloc] at this
  have h2 : w2.heap[w.heap.size + 1]? = some o2 := (hE3.block _ (by omega)).trans h1
  rw [hE4.block (w.heap.size + 1) (by rw [World.size_alloc]; show _ < w2.heap.size + 1; omega)]
  exact (Below.heap_alloc w2.drew o3 _ (show _ < w2.heap.size by omega)).trans h2
theorem set_two {w : World} {g : Nat} {t : TypeId} {a b : Value} (hW : w.heap[g]? = some (.cells #[a, b] t (0, 0))) (u v : Value) : ((w.setCell ⟨g, 0, none⟩ u).setCell ⟨g, 1, none⟩ v).heap[g]? = some (.cells #[u, v] t (0, 0)) := by
  simp [World.setCell, Array.getElem?_modify, hW]
theorem own_mono {w : World} {b b' : Nat} {e : TypeId} {size n : Nat} {v : Value} {xs : List Value} (h : w.ownsRow b e size v n xs) (hb : b' ≤ b) : w.ownsRow b' e size v n xs := by
  refine ⟨h.1, ?_⟩
  rcases h.2 with h0 | ⟨g, cap, cur, hv, hbg, h3⟩
  · exact .inl h0
  · exact .inr ⟨g, cap, cur, hv, by omega, h3⟩

theorem inst_ext {w w1 w2 w' : World} {o : Obj} {u v : Value} (hE2 : Ext w w1) (hE3 : Ext w1 w2) (hE4 : Ext (w2.drew.alloc o) w') :
    Ext w ((w'.setCell ⟨w.heap.size + 1, 0, none⟩ u).setCell ⟨w.heap.size + 1, 1, none⟩ v) := by
  have h : Ext w w' := ((((hE2.trans hE3).drew).alloc o)).trans hE4
  exact (Below.setCell (p := ⟨w.heap.size + 1, 0, none⟩) h (by show _ ≤ w.heap.size + 1; omega) u).setCell (p := ⟨w.heap.size + 1, 1, none⟩) (by show _ ≤ w.heap.size + 1; omega) v
theorem inst_own {w w1 w2 w' : World} {o : Obj} {u v x : Value} {LL L : List (Nat × Nat)} (hown : w'.ownsRow (w2.drew.alloc o).heap.size 68 2 x LL.length (cellVs LL)) (hs : w.heap.size + 1 < w2.heap.size + 1) (hE2 : Ext w w1) (hE3 : Ext w1 w2) (hE4 : Ext (w2.drew.alloc o) w')
    {L' : List (Nat × Nat)} (hLL : L' = LL) (hL : L' = L) : ((w'.setCell ⟨w.heap.size + 1, 0, none⟩ u).setCell ⟨w.heap.size + 1, 1, none⟩ v).ownsRow w.heap.size 68 2 x L.length (cellVs L) := by
  have e : LL = L := hLL.symm.trans hL
  subst e
  rw [World.size_alloc] at hown
  have hsz : w2.drew.heap.size = w2.heap.size := rfl
  rw [hsz] at hown
  have h1 := ownsRow_setCell_below (a := ⟨w.heap.size + 1, 0, none⟩) hown hs u
  have h2 := ownsRow_setCell_below (a := ⟨w.heap.size + 1, 1, none⟩) h1 hs v
  exact own_mono h2 (by omega)

set_option maxRecDepth 100000 in
set_option maxHeartbeats 4000000 in
theorem instead_c (S : Nat) (a : Addr) (L : List (Nat × Nat)) (c p many m : Nat) (B : Option Addr) (K : List (Nat × Nat)) (cb : Nat) (hL : RL m L) (hp : p + many < 18446744073709551616)
    (hn : L.length + K.length ≤ 50000) (w : World) (hr : RowL w (some a) L c) (hk : RowL w B K cb) :
    Calls Tryd.prog 88 #[.agg #[.int .u64 (S : Int), .slice (some a) L.length c], .int .u64 (p : Int), .int .u64 (many : Int), .slice B K.length cb] w (MadeM S (cutL L p (p + many) K) w) := by
  have h4 := hr.2.2.1
  have h5 := hr.2.2.2
  go_enter Tryd.func88, Tryd.ntmps88
  go_wp2_with fail
  refine (find_c (some a) L c p m hL (by omega) _ (hr.1.ext (((Ext.refl w).alloc _).alloc _))).mono ?_
  rintro e w1 ⟨k1, rfl, hcut1, hE1⟩
  have hk1 := hcut1.1
  have hb0 : w1.cell? ⟨w.heap.size, 0, none⟩ = some (.int .u64 (S : Int)) := (hE1.cell (p := ⟨w.heap.size, 0, none⟩) (by simp; omega)).trans (by simp)
  have hb1 : w1.cell? ⟨w.heap.size, 1, none⟩ = some (.slice (some a) L.length c) := (hE1.cell (p := ⟨w.heap.size, 1, none⟩) (by simp; omega)).trans (by simp)
  have hE2 : Ext w w1 := (((Ext.refl w).alloc _).alloc _).trans hE1
  have hs1 : w.heap.size + 2 ≤ w1.heap.size := by have h8 := hE1.size; rw [World.size_alloc, World.size_alloc] at h8; omega
  have h6 : k1 ≤ c := by omega
  go_wp2_with fail
  · have hrd := (hr.ext hE2).drop_c hk1 h
    have h' := h.symm
    subst h'
    refine (find_n _ (L.drop k1) _ _ (p + many) m (by rw [List.length_drop]) (hL.drop k1) (by rw [List.length_drop]; omega) _ hrd).mono ?_
    rintro e w2 ⟨k2, rfl, hcut2, hE3⟩
    have hk2 := hcut2.1
    rw [List.length_drop] at hk2
    obtain rfl : k2 = 0 := by omega
    go_wp2_with fail
    have hra : RowL w2 (some a) ((L.drop k1).drop 0) 0 := by rw [List.drop_zero]; exact hrd.ext hE3
    have hsz2 : w.heap.size + 2 ≤ w2.heap.size := Nat.le_trans hs1 hE3.size; have hc0 : w2.drew.cell? ⟨w.heap.size, 0, none⟩ = some (.int .u64 (S : Int)) := (hE3.cell (p := ⟨w.heap.size, 0, none⟩) (by simp; omega)).trans hb0; have hc1 : w2.drew.cell? ⟨w.heap.size, 1, none⟩ = some (.slice (some a) L.length k1) := (hE3.cell (p := ⟨w.heap.size, 1, none⟩) (by simp; omega)).trans hb1; refine wp_region_seq [(0, false), (1, false), (2, false), (3, false), (4, false), (5, false), (6, false), (7, false), (8, true), (9, true), (10, true), (11, true)] (Below (w.heap.size + 1)) (by kernel_rfl) (by kernel_rfl) (Below.refl _) (fun _ _ _ => Below.trans) ?_; simp only [List.map, nth_z, nth_s]; (repeat ((refine seq_read (by rfl) (by rfl) ?_; intro K hK; go_big_quiet_op; (refine ⟨_, fun _ _ => rfl, ?_⟩; go_big_quiet_on)))); refine seq_value (.int .u64 (S : Int)) (by rfl) (fun x hx => by have hq := (Below.cell hx (p := ⟨w.heap.size, 0, none⟩) (by simp)).trans hc0; simp [go_sem, execOp, Act.eval, hq]) ?_; intro K hK; simp only [Act.put, List.setIfInBounds_toArray, List.set_cons_zero, List.set_cons_succ]; refine hK _ ?_; clear hK K; (repeat ((refine seq_read (by rfl) (by rfl) ?_; intro K hK; go_big_quiet_op; (refine ⟨_, fun _ _ => rfl, ?_⟩; go_big_quiet_on)))); refine seq_value (.slice (some a) L.length k1) (by rfl) (fun x hx => by have hq := (Below.cell hx (p := ⟨w.heap.size, 1, none⟩) (by simp)).trans hc1; simp [go_sem, execOp, Act.eval, hq]) ?_; intro K hK; simp only [Act.put, List.setIfInBounds_toArray, List.set_cons_zero, List.set_cons_succ]; refine hK _ ?_; clear hK K; (repeat ((refine seq_read (by rfl) (by rfl) ?_; intro K hK; go_big_quiet_op; first | go_big_quiet_on | (refine ⟨_, fun _ _ => rfl, ?_⟩; go_big_quiet_on)))); refine seq_run (.slice (some ⟨w2.heap.size, 0, none⟩) 3 3) (w2.drew.alloc (.cells #[.slice (some a) k1 k1, .slice B K.length cb, .slice (some a) (0) (0)] 23)) (by rfl) ?_ (Below.alloc (Below.refl _ _) (by simp; omega) _) ?_; (simp [go_sem, execOp, Act.eval]); intro K hK; simp only [Act.put, List.setIfInBounds_toArray, List.set_cons_zero, List.set_cons_succ]; refine hK _ _ ?_; clear hK K; refine seq_call (concat_n w2.heap.size (some a) B (some a) (L.take k1) K ((L.drop k1).drop 0) k1 K.length (0) k1 cb (0) (by rw [List.length_take]; omega) rfl (by simp; omega) _ (by simp) ((World.cell?_alloc_at _ _ _ _ rfl).trans rfl) ((World.cell?_alloc_at _ _ _ _ rfl).trans rfl) ((World.cell?_alloc_at _ _ _ _ rfl).trans rfl) (((hr.ext (hE2.trans hE3)).ext (((Ext.refl w2).drew).alloc _)).take hk1) ((hk.ext (hE2.trans hE3)).ext (((Ext.refl w2).drew).alloc _)) (hra.ext (((Ext.refl w2).drew).alloc _)) (by simp; omega)) rfl Tryd.func103 (by kernel_rfl) (by kernel_rfl) (by rfl) (by rfl) ?_; intro K hK; rintro e w' ⟨v, rfl, hown, hE4⟩; refine ⟨_, rfl, (Below.mono hE4 (by simp; omega)), ?_⟩; simp only [Act.put, List.setIfInBounds_toArray, List.set_cons_zero, List.set_cons_succ]; refine hK _ _ ?_; clear hK K; generalize hLL : L.take k1 ++ (K ++ (L.drop k1).drop 0) = LL at hown; obtain ⟨A4, c4, rfl, hr4⟩ := own_row hown; have hW : w'.heap[w.heap.size + 1]? = some (.cells #[.int .u64 0, .slice none 0 0] 25) := inst_blk hE1 hE3 hE4; have hz0 := (cell_of_row w' _ 0 _ _ _ hW).trans rfl; have hz1 := (cell_of_row w' _ 1 _ _ _ hW).trans rfl; have hf0 := frozen_of_row w' _ 0 _ _ hW; have hf1 := frozen_of_row w' _ 1 _ _ hW; refine seq_run (.agg #[.int .u64 (S : Int), .slice A4 LL.length c4]) w' (by rfl) ?_ (Below.refl _ _) ?_; (simp [go_sem, execOp, Act.eval]); intro K hK; simp only [Act.put, List.setIfInBounds_toArray, List.set_cons_zero, List.set_cons_succ]; refine hK _ _ ?_; clear hK K; refine seq_store ((w'.setCell ⟨w.heap.size + 1, 0, none⟩ (.int .u64 (S : Int))).setCell ⟨w.heap.size + 1, 1, none⟩ (.slice A4 LL.length c4)) (by rfl) ?_ (((Below.refl _ _).setCell (by simp) _).setCell (by simp) _) ?_; (simp [go_sem, execOp, Act.eval, hz0, hz1, hf0, hf1]); intro K hK; simp only [Act.put]; refine hK _ _ ?_; clear hK K; refine seq_done ?_; go_wp2; refine bodyPost_ret (results_cell_row rfl _ _ _ _ _ _ _ rfl (set_two hW _ _) Tryd.underlying25 rfl (by kernel_rfl)) rfl ?_; exact ⟨_, rfl, inst_own hown (by simp; omega) hE2 hE3 hE4 hLL (cut_cut (by omega) hcut1 hcut2 K), inst_ext hE2 hE3 hE4⟩
  · have hrd := (hr.ext hE2).drop_n hk1 h
    refine (find_n _ (L.drop k1) _ _ (p + many) m (by rw [List.length_drop]) (hL.drop k1) (by rw [List.length_drop]; omega) _ hrd).mono ?_
    rintro e w2 ⟨k2, rfl, hcut2, hE3⟩
    have hk2 := hcut2.1
    have hk2' := hk2
    rw [List.length_drop] at hk2'
    have H := Lib.hid h
    clear h
    go_wp2_with fail
    · have hra := (hrd.ext hE3).drop_c hk2 h
      have H2 := Lib.hid h
      clear h
      have hsz2 : w.heap.size + 2 ≤ w2.heap.size := Nat.le_trans hs1 hE3.size; have hc0 : w2.drew.cell? ⟨w.heap.size, 0, none⟩ = some (.int .u64 (S : Int)) := (hE3.cell (p := ⟨w.heap.size, 0, none⟩) (by simp; omega)).trans hb0; have hc1 : w2.drew.cell? ⟨w.heap.size, 1, none⟩ = some (.slice (some a) L.length c) := (hE3.cell (p := ⟨w.heap.size, 1, none⟩) (by simp; omega)).trans hb1; refine wp_region_seq [(0, false), (1, false), (2, false), (3, false), (4, false), (5, false), (6, false), (7, false), (8, true), (9, true), (10, true), (11, true)] (Below (w.heap.size + 1)) (by kernel_rfl) (by kernel_rfl) (Below.refl _) (fun _ _ _ => Below.trans) ?_; simp only [List.map, nth_z, nth_s]; (repeat ((refine seq_read (by rfl) (by rfl) ?_; intro K hK; go_big_quiet_op; (refine ⟨_, fun _ _ => rfl, ?_⟩; go_big_quiet_on)))); refine seq_value (.int .u64 (S : Int)) (by rfl) (fun x hx => by have hq := (Below.cell hx (p := ⟨w.heap.size, 0, none⟩) (by simp)).trans hc0; simp [go_sem, execOp, Act.eval, hq]) ?_; intro K hK; simp only [Act.put, List.setIfInBounds_toArray, List.set_cons_zero, List.set_cons_succ]; refine hK _ ?_; clear hK K; (repeat ((refine seq_read (by rfl) (by rfl) ?_; intro K hK; go_big_quiet_op; (refine ⟨_, fun _ _ => rfl, ?_⟩; go_big_quiet_on)))); refine seq_value (.slice (some a) L.length c) (by rfl) (fun x hx => by have hq := (Below.cell hx (p := ⟨w.heap.size, 1, none⟩) (by simp)).trans hc1; simp [go_sem, execOp, Act.eval, hq]) ?_; intro K hK; simp only [Act.put, List.setIfInBounds_toArray, List.set_cons_zero, List.set_cons_succ]; refine hK _ ?_; clear hK K; (repeat ((refine seq_read (by rfl) (by rfl) ?_; intro K hK; go_big_quiet_op; first | go_big_quiet_on | (refine ⟨_, fun _ _ => rfl, ?_⟩; go_big_quiet_on)))); refine seq_run (.slice (some ⟨w2.heap.size, 0, none⟩) 3 3) (w2.drew.alloc (.cells #[.slice (some a) k1 c, .slice B K.length cb, .slice (some (a.add (k1 * 2))) (L.length - k1 - k2) (0)] 23)) (by rfl) ?_ (Below.alloc (Below.refl _ _) (by simp; omega) _) ?_; (simp [go_sem, execOp, Act.eval]); intro K hK; simp only [Act.put, List.setIfInBounds_toArray, List.set_cons_zero, List.set_cons_succ]; refine hK _ _ ?_; clear hK K; refine seq_call (concat_n w2.heap.size (some a) B (some (a.add (k1 * 2))) (L.take k1) K ((L.drop k1).drop k2) k1 K.length (L.length - k1 - k2) c cb (0) (by rw [List.length_take]; omega) rfl (by simp; omega) _ (by simp) ((World.cell?_alloc_at _ _ _ _ rfl).trans rfl) ((World.cell?_alloc_at _ _ _ _ rfl).trans rfl) ((World.cell?_alloc_at _ _ _ _ rfl).trans rfl) (((hr.ext (hE2.trans hE3)).ext (((Ext.refl w2).drew).alloc _)).take hk1) ((hk.ext (hE2.trans hE3)).ext (((Ext.refl w2).drew).alloc _)) (hra.ext (((Ext.refl w2).drew).alloc _)) (by simp; omega)) rfl Tryd.func103 (by kernel_rfl) (by kernel_rfl) (by rfl) (by rfl) ?_; intro K hK; rintro e w' ⟨v, rfl, hown, hE4⟩; refine ⟨_, rfl, (Below.mono hE4 (by simp; omega)), ?_⟩; simp only [Act.put, List.setIfInBounds_toArray, List.set_cons_zero, List.set_cons_succ]; refine hK _ _ ?_; clear hK K; generalize hLL : L.take k1 ++ (K ++ (L.drop k1).drop k2) = LL at hown; obtain ⟨A4, c4, rfl, hr4⟩ := own_row hown; have hW : w'.heap[w.heap.size + 1]? = some (.cells #[.int .u64 0, .slice none 0 0] 25) := inst_blk hE1 hE3 hE4; have hz0 := (cell_of_row w' _ 0 _ _ _ hW).trans rfl; have hz1 := (cell_of_row w' _ 1 _ _ _ hW).trans rfl; have hf0 := frozen_of_row w' _ 0 _ _ hW; have hf1 := frozen_of_row w' _ 1 _ _ hW; refine seq_run (.agg #[.int .u64 (S : Int), .slice A4 LL.length c4]) w' (by rfl) ?_ (Below.refl _ _) ?_; (simp [go_sem, execOp, Act.eval]); intro K hK; simp only [Act.put, List.setIfInBounds_toArray, List.set_cons_zero, List.set_cons_succ]; refine hK _ _ ?_; clear hK K; refine seq_store ((w'.setCell ⟨w.heap.size + 1, 0, none⟩ (.int .u64 (S : Int))).setCell ⟨w.heap.size + 1, 1, none⟩ (.slice A4 LL.length c4)) (by rfl) ?_ (((Below.refl _ _).setCell (by simp) _).setCell (by simp) _) ?_; (simp [go_sem, execOp, Act.eval, hz0, hz1, hf0, hf1]); intro K hK; simp only [Act.put]; refine hK _ _ ?_; clear hK K; refine seq_done ?_; go_wp2; refine bodyPost_ret (results_cell_row rfl _ _ _ _ _ _ _ rfl (set_two hW _ _) Tryd.underlying25 rfl (by kernel_rfl)) rfl ?_; exact ⟨_, rfl, inst_own hown (by simp; omega) hE2 hE3 hE4 hLL (cut_cut (by omega) hcut1 hcut2 K), inst_ext hE2 hE3 hE4⟩
    · have hra := (hrd.ext hE3).drop_n hk2 h
      have H2 := Lib.hid h
      clear h
      have hsz2 : w.heap.size + 2 ≤ w2.heap.size := Nat.le_trans hs1 hE3.size; have hc0 : w2.drew.cell? ⟨w.heap.size, 0, none⟩ = some (.int .u64 (S : Int)) := (hE3.cell (p := ⟨w.heap.size, 0, none⟩) (by simp; omega)).trans hb0; have hc1 : w2.drew.cell? ⟨w.heap.size, 1, none⟩ = some (.slice (some a) L.length c) := (hE3.cell (p := ⟨w.heap.size, 1, none⟩) (by simp; omega)).trans hb1; refine wp_region_seq [(0, false), (1, false), (2, false), (3, false), (4, false), (5, false), (6, false), (7, false), (8, true), (9, true), (10, true), (11, true)] (Below (w.heap.size + 1)) (by kernel_rfl) (by kernel_rfl) (Below.refl _) (fun _ _ _ => Below.trans) ?_; simp only [List.map, nth_z, nth_s]; (repeat ((refine seq_read (by rfl) (by rfl) ?_; intro K hK; go_big_quiet_op; (refine ⟨_, fun _ _ => rfl, ?_⟩; go_big_quiet_on)))); refine seq_value (.int .u64 (S : Int)) (by rfl) (fun x hx => by have hq := (Below.cell hx (p := ⟨w.heap.size, 0, none⟩) (by simp)).trans hc0; simp [go_sem, execOp, Act.eval, hq]) ?_; intro K hK; simp only [Act.put, List.setIfInBounds_toArray, List.set_cons_zero, List.set_cons_succ]; refine hK _ ?_; clear hK K; (repeat ((refine seq_read (by rfl) (by rfl) ?_; intro K hK; go_big_quiet_op; (refine ⟨_, fun _ _ => rfl, ?_⟩; go_big_quiet_on)))); refine seq_value (.slice (some a) L.length c) (by rfl) (fun x hx => by have hq := (Below.cell hx (p := ⟨w.heap.size, 1, none⟩) (by simp)).trans hc1; simp [go_sem, execOp, Act.eval, hq]) ?_; intro K hK; simp only [Act.put, List.setIfInBounds_toArray, List.set_cons_zero, List.set_cons_succ]; refine hK _ ?_; clear hK K; (repeat ((refine seq_read (by rfl) (by rfl) ?_; intro K hK; go_big_quiet_op; first | go_big_quiet_on | (refine ⟨_, fun _ _ => rfl, ?_⟩; go_big_quiet_on)))); refine seq_run (.slice (some ⟨w2.heap.size, 0, none⟩) 3 3) (w2.drew.alloc (.cells #[.slice (some a) k1 c, .slice B K.length cb, .slice (some ((a.add (k1 * 2)).add (k2 * 2))) (L.length - k1 - k2) (c - k1 - k2)] 23)) (by rfl) ?_ (Below.alloc (Below.refl _ _) (by simp; omega) _) ?_; (simp [go_sem, execOp, Act.eval]); intro K hK; simp only [Act.put, List.setIfInBounds_toArray, List.set_cons_zero, List.set_cons_succ]; refine hK _ _ ?_; clear hK K; refine seq_call (concat_n w2.heap.size (some a) B (some ((a.add (k1 * 2)).add (k2 * 2))) (L.take k1) K ((L.drop k1).drop k2) k1 K.length (L.length - k1 - k2) c cb (c - k1 - k2) (by rw [List.length_take]; omega) rfl (by simp; omega) _ (by simp) ((World.cell?_alloc_at _ _ _ _ rfl).trans rfl) ((World.cell?_alloc_at _ _ _ _ rfl).trans rfl) ((World.cell?_alloc_at _ _ _ _ rfl).trans rfl) (((hr.ext (hE2.trans hE3)).ext (((Ext.refl w2).drew).alloc _)).take hk1) ((hk.ext (hE2.trans hE3)).ext (((Ext.refl w2).drew).alloc _)) (hra.ext (((Ext.refl w2).drew).alloc _)) (by simp; omega)) rfl Tryd.func103 (by kernel_rfl) (by kernel_rfl) (by rfl) (by rfl) ?_; intro K hK; rintro e w' ⟨v, rfl, hown, hE4⟩; refine ⟨_, rfl, (Below.mono hE4 (by simp; omega)), ?_⟩; simp only [Act.put, List.setIfInBounds_toArray, List.set_cons_zero, List.set_cons_succ]; refine hK _ _ ?_; clear hK K; generalize hLL : L.take k1 ++ (K ++ (L.drop k1).drop k2) = LL at hown; obtain ⟨A4, c4, rfl, hr4⟩ := own_row hown; have hW : w'.heap[w.heap.size + 1]? = some (.cells #[.int .u64 0, .slice none 0 0] 25) := inst_blk hE1 hE3 hE4; have hz0 := (cell_of_row w' _ 0 _ _ _ hW).trans rfl; have hz1 := (cell_of_row w' _ 1 _ _ _ hW).trans rfl; have hf0 := frozen_of_row w' _ 0 _ _ hW; have hf1 := frozen_of_row w' _ 1 _ _ hW; refine seq_run (.agg #[.int .u64 (S : Int), .slice A4 LL.length c4]) w' (by rfl) ?_ (Below.refl _ _) ?_; (simp [go_sem, execOp, Act.eval]); intro K hK; simp only [Act.put, List.setIfInBounds_toArray, List.set_cons_zero, List.set_cons_succ]; refine hK _ _ ?_; clear hK K; refine seq_store ((w'.setCell ⟨w.heap.size + 1, 0, none⟩ (.int .u64 (S : Int))).setCell ⟨w.heap.size + 1, 1, none⟩ (.slice A4 LL.length c4)) (by rfl) ?_ (((Below.refl _ _).setCell (by simp) _).setCell (by simp) _) ?_; (simp [go_sem, execOp, Act.eval, hz0, hz1, hf0, hf1]); intro K hK; simp only [Act.put]; refine hK _ _ ?_; clear hK K; refine seq_done ?_; go_wp2; refine bodyPost_ret (results_cell_row rfl _ _ _ _ _ _ _ rfl (set_two hW _ _) Tryd.underlying25 rfl (by kernel_rfl)) rfl ?_; exact ⟨_, rfl, inst_own hown (by simp; omega) hE2 hE3 hE4 hLL (cut_cut (by omega) hcut1 hcut2 K), inst_ext hE2 hE3 hE4⟩

set_option maxRecDepth 100000 in
set_option maxHeartbeats 4000000 in
theorem instead_nil (S p many : Nat) (B : Option Addr) (K : List (Nat × Nat)) (cb : Nat) (hp : p + many < 18446744073709551616)
    (hn : K.length ≤ 50000) (w : World) (hk : RowL w B K cb) :
    Calls Tryd.prog 88 #[.agg #[.int .u64 (S : Int), .slice none 0 0], .int .u64 (p : Int), .int .u64 (many : Int), .slice B K.length cb] w (MadeM S (cutL [] p (p + many) K) w) := by
  go_enter Tryd.func88, Tryd.ntmps88
  go_wp2_with fail
  refine (find_n none [] 0 0 p 0 rfl (RL.nil 0) (by simp) _ (RowL.nil _)).mono ?_
  rintro e w1 ⟨k1, rfl, hcut1, hE1⟩
  obtain rfl : k1 = 0 := by have := hcut1.1; simpa using this
  have hb0 : w1.cell? ⟨w.heap.size, 0, none⟩ = some (.int .u64 (S : Int)) := (hE1.cell (p := ⟨w.heap.size, 0, none⟩) (by simp; omega)).trans (by simp)
  have hb1 : w1.cell? ⟨w.heap.size, 1, none⟩ = some (.slice none 0 0) := (hE1.cell (p := ⟨w.heap.size, 1, none⟩) (by simp; omega)).trans (by simp)
  have hE2 : Ext w w1 := (((Ext.refl w).alloc _).alloc _).trans hE1
  have hs1 : w.heap.size + 2 ≤ w1.heap.size := by have h8 := hE1.size; rw [World.size_alloc, World.size_alloc] at h8; omega
  go_wp2_with fail
  refine (find_n none [] 0 0 (p + many) 0 rfl (RL.nil 0) (by simp) _ (RowL.nil _)).mono ?_
  rintro e w2 ⟨k2, rfl, hcut2, hE3⟩
  obtain rfl : k2 = 0 := by have := hcut2.1; simpa using this
  go_wp2_with fail
  have hsz2 : w.heap.size + 2 ≤ w2.heap.size := Nat.le_trans hs1 hE3.size; have hc0 : w2.drew.cell? ⟨w.heap.size, 0, none⟩ = some (.int .u64 (S : Int)) := (hE3.cell (p := ⟨w.heap.size, 0, none⟩) (by simp; omega)).trans hb0; have hc1 : w2.drew.cell? ⟨w.heap.size, 1, none⟩ = some (.slice none 0 0) := (hE3.cell (p := ⟨w.heap.size, 1, none⟩) (by simp; omega)).trans hb1; refine wp_region_seq [(0, false), (1, false), (2, false), (3, false), (4, false), (5, false), (6, false), (7, false), (8, true), (9, true), (10, true), (11, true)] (Below (w.heap.size + 1)) (by kernel_rfl) (by kernel_rfl) (Below.refl _) (fun _ _ _ => Below.trans) ?_; simp only [List.map, nth_z, nth_s]; (repeat ((refine seq_read (by rfl) (by rfl) ?_; intro K hK; go_big_quiet_op; (refine ⟨_, fun _ _ => rfl, ?_⟩; go_big_quiet_on)))); refine seq_value (.int .u64 (S : Int)) (by rfl) (fun x hx => by have hq := (Below.cell hx (p := ⟨w.heap.size, 0, none⟩) (by simp)).trans hc0; simp [go_sem, execOp, Act.eval, hq]) ?_; intro K hK; simp only [Act.put, List.setIfInBounds_toArray, List.set_cons_zero, List.set_cons_succ]; refine hK _ ?_; clear hK K; (repeat ((refine seq_read (by rfl) (by rfl) ?_; intro K hK; go_big_quiet_op; (refine ⟨_, fun _ _ => rfl, ?_⟩; go_big_quiet_on)))); refine seq_value (.slice none 0 0) (by rfl) (fun x hx => by have hq := (Below.cell hx (p := ⟨w.heap.size, 1, none⟩) (by simp)).trans hc1; simp [go_sem, execOp, Act.eval, hq]) ?_; intro K hK; simp only [Act.put, List.setIfInBounds_toArray, List.set_cons_zero, List.set_cons_succ]; refine hK _ ?_; clear hK K; (repeat ((refine seq_read (by rfl) (by rfl) ?_; intro K hK; go_big_quiet_op; first | go_big_quiet_on | (refine ⟨_, fun _ _ => rfl, ?_⟩; go_big_quiet_on)))); refine seq_run (.slice (some ⟨w2.heap.size, 0, none⟩) 3 3) (w2.drew.alloc (.cells #[.slice none 0 0, .slice B K.length cb, .slice none 0 0] 23)) (by rfl) ?_ (Below.alloc (Below.refl _ _) (by simp; omega) _) ?_; (simp [go_sem, execOp, Act.eval]); intro K hK; simp only [Act.put, List.setIfInBounds_toArray, List.set_cons_zero, List.set_cons_succ]; refine hK _ _ ?_; clear hK K; refine seq_call (concat_n w2.heap.size none B none [] K [] 0 K.length 0 0 cb 0 rfl rfl rfl _ (by simp) ((World.cell?_alloc_at _ _ _ _ rfl).trans rfl) ((World.cell?_alloc_at _ _ _ _ rfl).trans rfl) ((World.cell?_alloc_at _ _ _ _ rfl).trans rfl) (RowL.nil _) ((hk.ext (hE2.trans hE3)).ext (((Ext.refl w2).drew).alloc _)) (RowL.nil _) (by simp; omega)) rfl Tryd.func103 (by kernel_rfl) (by kernel_rfl) (by rfl) (by rfl) ?_; intro K hK; rintro e w' ⟨v, rfl, hown, hE4⟩; refine ⟨_, rfl, (Below.mono hE4 (by simp; omega)), ?_⟩; simp only [Act.put, List.setIfInBounds_toArray, List.set_cons_zero, List.set_cons_succ]; refine hK _ _ ?_; clear hK K; generalize hLL : ([] : List (Nat × Nat)) ++ (K ++ []) = LL at hown; obtain ⟨A4, c4, rfl, hr4⟩ := own_row hown; have hW : w'.heap[w.heap.size + 1]? = some (.cells #[.int .u64 0, .slice none 0 0] 25) := inst_blk hE1 hE3 hE4; have hz0 := (cell_of_row w' _ 0 _ _ _ hW).trans rfl; have hz1 := (cell_of_row w' _ 1 _ _ _ hW).trans rfl; have hf0 := frozen_of_row w' _ 0 _ _ hW; have hf1 := frozen_of_row w' _ 1 _ _ hW; refine seq_run (.agg #[.int .u64 (S : Int), .slice A4 LL.length c4]) w' (by rfl) ?_ (Below.refl _ _) ?_; (simp [go_sem, execOp, Act.eval]); intro K hK; simp only [Act.put, List.setIfInBounds_toArray, List.set_cons_zero, List.set_cons_succ]; refine hK _ _ ?_; clear hK K; refine seq_store ((w'.setCell ⟨w.heap.size + 1, 0, none⟩ (.int .u64 (S : Int))).setCell ⟨w.heap.size + 1, 1, none⟩ (.slice A4 LL.length c4)) (by rfl) ?_ (((Below.refl _ _).setCell (by simp) _).setCell (by simp) _) ?_; (simp [go_sem, execOp, Act.eval, hz0, hz1, hf0, hf1]); intro K hK; simp only [Act.put]; refine hK _ _ ?_; clear hK K; refine seq_done ?_; go_wp2; refine bodyPost_ret (results_cell_row rfl _ _ _ _ _ _ _ rfl (set_two hW _ _) Tryd.underlying25 rfl (by kernel_rfl)) rfl ?_; exact ⟨_, rfl, inst_own hown (by simp; omega) hE2 hE3 hE4 hLL (by simp [cutL]), inst_ext hE2 hE3 hE4⟩
end Go.Proofs.YticbjiddbjgikaaDoor
/- Package mem: Clear, Store, New. -/
namespace Go.Proofs.YticbjiddbjgikaaDoor
open Go.ChangeShapes Go.WideShapes Go.ChangeAt Go.RowKit
set_option linter.unusedVariables false
set_option maxRecDepth 10000
set_option linter.unusedSimpArgs false

theorem instead_a (S : Nat) (A : Option Addr) (L : List (Nat × Nat)) (c p many m : Nat) (B : Option Addr) (K : List (Nat × Nat)) (cb : Nat) (hL : RL m L) (hp : p + many < 18446744073709551616)
    (hn : L.length + K.length ≤ 50000) (w : World) (hr : RowL w A L c) (hk : RowL w B K cb) :
    Calls Tryd.prog 88 #[.agg #[.int .u64 (S : Int), .slice A L.length c], .int .u64 (p : Int), .int .u64 (many : Int), .slice B K.length cb] w (MadeM S (cutL L p (p + many) K) w) := by
  cases A with
  | none =>
    obtain ⟨rfl, rfl⟩ := hr.2.1 rfl
    exact instead_nil S p many B K cb hp (by simpa using hn) w hk
  | some a => exact instead_c S a L c p many m B K cb hL hp hn w hr hk

theorem ext_blk {w w' : World} {o1 o2 : Obj} (h : Ext ((w.alloc o1).alloc o2) w') : w'.heap[w.heap.size + 1]? = some o2 := by
  rw [h.block (w.heap.size + 1) (by rw [World.size_alloc, World.size_alloc]; omega)]
  have := heap_alloc_new (w.alloc o1) o2
  rwa [World.size_alloc] at this
theorem ext_set {w w' : World} (h : Ext w w') (u v : Value) : Ext w ((w'.setCell ⟨w.heap.size + 1, 0, none⟩ u).setCell ⟨w.heap.size + 1, 1, none⟩ v) :=
  (Below.setCell (p := ⟨w.heap.size + 1, 0, none⟩) h (by show _ ≤ w.heap.size + 1; omega) u).setCell (p := ⟨w.heap.size + 1, 1, none⟩) (by show _ ≤ w.heap.size + 1; omega) v
theorem own_set {w w' : World} {b : Nat} (hb : w.heap.size + 1 < b) {x : Value} {n : Nat} {xs : List Value} (hown : w'.ownsRow b 68 2 x n xs) (u v : Value) :
    ((w'.setCell ⟨w.heap.size + 1, 0, none⟩ u).setCell ⟨w.heap.size + 1, 1, none⟩ v).ownsRow w.heap.size 68 2 x n xs :=
  own_mono (ownsRow_setCell_below (a := ⟨w.heap.size + 1, 1, none⟩) (ownsRow_setCell_below (a := ⟨w.heap.size + 1, 0, none⟩) hown hb u) hb v) (by omega)

set_option maxRecDepth 100000 in
theorem clear_c (S : Nat) (A : Option Addr) (L : List (Nat × Nat)) (c a b m : Nat) (hL : RL m L) (hp : a / 8 + b / 8 < 18446744073709551616)
    (a1 : a < 18446744073709551616) (b1 : b < 18446744073709551616) (hn : L.length ≤ 40000) (w : World) (hr : RowL w A L c) :
    Calls Tryd.prog 98 #[.agg #[.int .u64 (S : Int), .slice A L.length c], .int .u64 (a : Int), .int .u64 (b : Int)] w (MadeM S (clearL L (a / 8) (a / 8 + b / 8)) w) := by
  go_enter Tryd.func98, Tryd.ntmps98
  go_wp2_with fail
  refine (instead_a S A L c (a / 8) (b / 8) m none [] 0 hL hp (by simp; omega) _ (hr.ext (((Ext.refl w).alloc _).alloc _)) (RowL.nil _)).mono ?_
  rintro e w1 ⟨v, rfl, hown, hE⟩
  obtain ⟨A4, c4, rfl, hr4⟩ := own_row hown
  have hW := ext_blk hE
  have hz0 := (cell_of_row w1 _ 0 _ _ _ hW).trans rfl
  have hz1 := (cell_of_row w1 _ 1 _ _ _ hW).trans rfl
  have hf0 := frozen_of_row w1 _ 0 _ _ hW
  have hf1 := frozen_of_row w1 _ 1 _ _ hW
  rw [World.size_alloc, World.size_alloc] at hown
  have hE0 := (((Ext.refl w).alloc _).alloc _).trans hE
  have Hown := Lib.hid hown
  have HE := Lib.hid hE0
  clear hown hE hr4
  go_wp2
  (try simp only [Exit.inBlock, Exit.then]); refine bodyPost_ret (results_cell_row rfl _ _ _ _ _ _ _ rfl (set_two hW _ _) Tryd.underlying25 rfl (by kernel_rfl)) rfl ?_
  exact ⟨_, rfl, own_set (by omega) Hown.out _ _, ext_set HE.out _ _⟩
end Go.Proofs.YticbjiddbjgikaaDoor
/- Package mem: Store. -/
namespace Go.Proofs.YticbjiddbjgikaaDoor
open Go.ChangeShapes Go.WideShapes Go.ChangeAt Go.RowKit
set_option linter.unusedVariables false
set_option maxRecDepth 10000
set_option linter.unusedSimpArgs false

theorem row_put {W o s v : Nat} (h : o + s ≤ 8) : ((rowA (byteN W) 8).toList.take o ++ (rowA (byteN v) s).toList ++ (rowA (byteN W) 8).toList.drop (o + s)).toArray = rowA (putW W o s v) 8 := by
  apply Array.ext'
  rw [rowA_list, rowA_list, rowA_list, List.toList_toArray]
  apply List.ext_getElem
  · simp; omega
  · intro i h1 h2
    have hi : i < 8 := by simpa using h2
    rw [List.getElem_map, List.getElem_range]
    by_cases c1 : i < o
    · rw [List.getElem_append_left (by simp; omega), List.getElem_append_left (by simp; omega), List.getElem_take, List.getElem_map, List.getElem_range]
      unfold putW; rw [if_neg (by omega)]
    · by_cases c2 : i < o + s
      · rw [List.getElem_append_left (by simp; omega), List.getElem_append_right (by simp; omega), List.getElem_map, List.getElem_range]
        unfold putW; rw [if_pos (by omega)]
        simp only [List.length_take, List.length_map, List.length_range, show min o 8 = o by omega]
      · rw [List.getElem_append_right (by simp; omega), List.getElem_drop, List.getElem_map, List.getElem_range]
        unfold putW; rw [if_neg (by omega)]
        simp only [List.length_append, List.length_take, List.length_map, List.length_range, show min o 8 = o by omega]
        rw [show o + s + (i - (o + s)) = i by omega]

theorem u8_one : (Tryd.prog.info? 5).map (·.size) = some 1 := by kernel_rfl

/-- the bytes put, copied into the word's -/
theorem copy_put (w : World) (W v s o g : Nat) (h : o + s ≤ 8) (hg : w.heap[g]? = some (.cells (rowA (byteN W) 8) 5)) (ty : TypeId) :
    (Builtin.copy_ #[112, 112] ty #[.slice (some ⟨g, o, none⟩) (8 - o) (8 - o), .slice (some ⟨w.heap.size, 0, none⟩) s s]).run Tryd.prog (w.alloc (.cells (rowA (byteN v) s) 5)) =
      .ok (goInt s) ((w.alloc (.cells (rowA (byteN v) s) 5)).setRow g (rowA (putW W o s v) 8)) := by
  have hlt : g < w.heap.size := (Array.getElem?_eq_some_iff.1 hg).1
  have hl : (rowA (byteN v) s).toList.length = s := by rw [rowA_list]; simp
  have h := run_copy_row (P := Tryd.prog) (w.alloc (.cells (rowA (byteN v) s) 5)) 112 112 ty 5 g o (8 - o) (8 - o) ⟨w.heap.size, 0, none⟩ s s (rowA (byteN W) 8) 5 (rowA (byteN v) s).toList
    Tryd.underlying112 u8_one ((Below.heap_alloc w _ g hlt).trans hg) (by rw [hl]; exact (Nat.min_eq_left (by omega)).symm)
    (by
      intro j u hj
      have e : (⟨w.heap.size, 0, none⟩ : Addr).add j = ⟨w.heap.size, j, none⟩ := by unfold Addr.add; split <;> simp_all
      rw [e, cell_of_row _ _ _ _ _ _ (heap_alloc_new w _)]
      simpa using hj)
    (by rw [hl, rowA_size]; exact h)
    (by
      intro u hu
      rw [rowA_list] at hu
      simp only [List.mem_map] at hu
      obtain ⟨j, _, rfl⟩ := hu
      rfl)
  rw [hl, row_put (by assumption)] at h
  exact h

theorem slb_new (W o s v : Nat) {w : World} {g : Nat} (hg : w.heap[g]? = some (.cells (rowA (putW W o s v) 8) 5)) : SlB w (some ⟨g, 0, none⟩) (rowN (putW W o s v) 8) := by
  intro _
  refine ⟨_, _, rfl, (Array.getElem?_eq_some_iff.1 hg).1, fun i hi => ?_⟩
  rw [rowN_len] at hi
  have e : bAt (rowN (putW W o s v) 8) i = putW W o s v i := by unfold bAt; exact rowN_at _ hi
  rw [e, Nat.zero_add, cell_of_row _ _ _ _ _ _ hg, rowA_get _ hi]

theorem results_two {fn : Func} {p u : Tmp} {ty : TypeId} {P : Program} (h : fn.results = #[.cell p ty, .tmp u]) (tmps : Array Value) (w : World) (g : Nat) (t : TypeId) (cs : Array Value) (fr : Nat × Nat) (d : TypeDesc)
    (hp : tmps.getD p undef = .pointer (some ⟨g, 0, none⟩)) (hg : w.heap[g]? = some (.cells cs t fr))
    (hd : (match d with | .struct _ | .array _ _ => true | _ => false) = true) (hu : P.underlying ty = some d) (hi : (P.info? ty).map (·.size) = some cs.size) :
    (results fn tmps).run P w = .ok (.tuple #[.agg cs, tmps.getD u undef]) w := by
  rw [results_cell_tmp h, hp]
  simp [asAddr, run_loadVar_row w g t ty cs fr d hg hu (by cases d <;> first | rfl | exact hd) hi]

/-- what Store leaves, where it stores -/
def Stored (S : Nat) (L : List (Nat × Nat)) (w : World) (e : Ending) (w' : World) : Prop :=
  ∃ v, e = .returned (.tuple #[.agg #[.int .u64 (S : Int), v], .int .i64 0]) ∧ w'.ownsRow w.heap.size 68 2 v L.length (cellVs L) ∧ Ext w w'

set_option maxRecDepth 100000 in
set_option maxHeartbeats 4000000 in
theorem store_c (S : Nat) (A : Option Addr) (L : List (Nat × Nat)) (c a s v m : Nat) (hL : RL m L) (a1 : a < 18446744073709551616) (v1 : v < 18446744073709551616) (hz : IsSize s) (h2 : a % s = 0) (h3 : a < S) (hn : L.length ≤ 40000) (w : World) (hr : RowL w A L c) :
    Calls Tryd.prog 68 #[.agg #[.int .u64 (S : Int), .slice A L.length c], .int .u64 (a : Int), .int .i64 (s : Int), .int .u64 (v : Int)] w (Stored S (storeL L a s v) w) := by
  have hW := wordL_lt hL (a / 8)
  have hN := newW_lt (wordL L (a / 8)) (a % 8) s v
  have h8 : a % 8 + s ≤ 8 := by rcases hz with rfl | rfl | rfl | rfl <;> omega
  go_enter Tryd.func68, Tryd.ntmps68
  go_wp2_with fail
  refine (wrong_c S A L.length c a s a1 _).mono ?_
  rintro e w1 ⟨rfl, hE1⟩
  rw [errN_0 hz h2 h3]
  have hE1' := (((Ext.refl w).alloc _).alloc _).trans hE1
  have hb0 : w1.cell? ⟨w.heap.size, 0, none⟩ = some (.int .u64 (S : Int)) := (hE1.cell (p := ⟨w.heap.size, 0, none⟩) (by simp; omega)).trans (by simp)
  have hb1 : w1.cell? ⟨w.heap.size, 1, none⟩ = some (.slice A L.length c) := (hE1.cell (p := ⟨w.heap.size, 1, none⟩) (by simp; omega)).trans (by simp)
  go_wp2_with fail
  refine (word_c S A L c a m a1 hL (by omega) _ (hr.1.ext hE1')).mono ?_
  rintro e w2 ⟨rfl, hE2⟩
  go_wp2_with fail
  refine (put_c _ 8 hW (.inr (.inr (.inr rfl))) _).mono ?_
  rintro e w3 ⟨rfl, hw3⟩
  subst hw3
  have hlo : a % 8 ≤ 8 := by omega
  go_wp2_with fail
  refine wp_region_seq [(0, false), (1, false), (2, false), (3, false), (4, false), (5, false), (6, true), (7, true)] (Below (w2.heap.size)) (by kernel_rfl) (by kernel_rfl) (Below.refl _) (fun _ _ _ => Below.trans) ?_; simp only [List.map, nth_z, nth_s]
  (repeat ((refine seq_read (by rfl) (by rfl) ?_; intro K hK; go_big_quiet_op; first | go_big_quiet_on | (refine ⟨_, fun _ _ => rfl, ?_⟩; go_big_quiet_on))))
  obtain ⟨W3, hW3⟩ : ∃ W3, W3 = (w2.alloc (.cells (rowA (byteN (wordL L (a / 8))) 8) 5)).drew := ⟨_, rfl⟩
  have hg3 : W3.heap[w2.heap.size]? = some (.cells (rowA (byteN (wordL L (a / 8))) 8) 5) := by rw [hW3]; exact heap_alloc_new w2 _
  have hs3 : W3.heap.size = w2.heap.size + 1 := by rw [hW3]; exact World.size_alloc _ _
  have hE3 : Ext w2 W3 := by rw [hW3]; exact ((Ext.refl w2).alloc _).drew
  rw [← hW3]
  refine seq_call (put_c v s v1 hz _) rfl Tryd.func86 (by kernel_rfl) (by kernel_rfl) (by rfl) (by rfl) ?_; intro K hK; rintro e w' ⟨rfl, hw4⟩; refine ⟨_, rfl, (by rw [hw4]; exact Below.alloc (Below.refl _ _) (by omega) _), ?_⟩; simp only [Act.put, List.setIfInBounds_toArray, List.set_cons_zero, List.set_cons_succ]; refine hK _ _ ?_; clear hK K
  subst hw4
  refine seq_copy (goInt s) _ (.slice (some ⟨w2.heap.size, a % 8, none⟩) (8 - a % 8) (8 - a % 8)) (.slice (some ⟨W3.heap.size, 0, none⟩) s s) rfl rfl rfl (by rfl) (copy_put W3 (wordL L (a / 8)) v s (a % 8) w2.heap.size h8 hg3) (below_setRow (Below.refl _ _) (by omega) _) ?_
  intro K hK
  simp only [Act.put, List.setIfInBounds_toArray, List.set_cons_zero, List.set_cons_succ]
  refine hK _ _ ?_
  clear hK K
  obtain ⟨w5, hw5⟩ : ∃ w5, w5 = (W3.alloc (.cells (rowA (byteN v) s) 5)).setRow w2.heap.size (rowA (putW (wordL L (a / 8)) (a % 8) s v) 8) := ⟨_, rfl⟩
  have hg5 : w5.heap[w2.heap.size]? = some (.cells (rowA (putW (wordL L (a / 8)) (a % 8) s v) 8) 5) := by
    rw [hw5]
    exact setRow_heap _ _ _ _ _ _ ((Below.heap_alloc W3 _ w2.heap.size (by omega)).trans hg3)
  have hE5 : Ext w2 w5 := by rw [hw5]; exact below_setRow (hE3.alloc _) (by omega) _
  rw [← hw5]
  have hsl := slb_new _ _ _ _ hg5
  have hb05 : w5.cell? ⟨w.heap.size, 0, none⟩ = some (.int .u64 (S : Int)) := ((hE2.trans hE5).cell (p := ⟨w.heap.size, 0, none⟩) (block_lt_of_cell hb0)).trans hb0
  have hb15 : w5.cell? ⟨w.heap.size, 1, none⟩ = some (.slice A L.length c) := ((hE2.trans hE5).cell (p := ⟨w.heap.size, 1, none⟩) (block_lt_of_cell hb1)).trans hb1
  have hEw : Ext ((w.alloc (.cells #[.int .u64 (S : Int), .slice A L.length c] 25)).alloc (.cells #[.int .u64 0, .slice none 0 0] 25)) w5 := hE1.trans (hE2.trans hE5)
  have hs5 : w.heap.size + 2 ≤ w5.heap.size := by have h := hEw.size; rw [World.size_alloc, World.size_alloc] at h; omega
  have hr5 : RowL w5 A L c := hr.ext ((((Ext.refl w).alloc _).alloc _).trans hEw)
  clear hb0 hb1 hg5 hg3 hw5 hW3 hs3 hE3 hE5 hE1 hE1' hE2
  refine seq_done ?_
  go_wp2_with fail
  refine (getrow_c _ (putW (wordL L (a / 8)) (a % 8) s v) 8 _ (putW_lt _ _ _ _) (by omega) _ hsl).mono ?_
  rintro e w6 ⟨rfl, rfl⟩
  have hval : numN (rowN (putW (wordL L (a / 8)) (a % 8) s v) 8) = newW (wordL L (a / 8)) (a % 8) s v := rfl
  rw [hval]
  clear hval hsl
  have hst : storeL L a s v = cutL L (a / 8) (a / 8 + 1) (if newW (wordL L (a / 8)) (a % 8) s v = 0 then [] else [(a / 8, newW (wordL L (a / 8)) (a % 8) s v)]) := rfl
  generalize newW (wordL L (a / 8)) (a % 8) s v = N at *
  generalize storeL L a s v = LL at *
  by_cases hv : N = 0
  · have hd : ((N : Int) != 0) = false := by simp; omega
    rw [if_pos hv] at hst
    have Hst := Lib.hid hst
    clear hst hv
    go_wp2_with fail
    refine (instead_a S A L c (a / 8) 1 m none [] 0 hL (by omega) (by simp; omega) w5 hr5 (RowL.nil _)).mono ?_
    rintro e w7 ⟨u, rfl, hown, hE⟩; obtain ⟨A4, c4, rfl, hr4⟩ := own_row hown; have hE7 := hEw.trans (hE); have hW7 := ext_blk hE7; have hz0 := (cell_of_row w7 _ 0 _ _ _ hW7).trans rfl; have hz1 := (cell_of_row w7 _ 1 _ _ _ hW7).trans rfl; have hf0 := frozen_of_row w7 _ 0 _ _ hW7; have hf1 := frozen_of_row w7 _ 1 _ _ hW7; have Hown := Lib.hid hown; have HE := Lib.hid ((((Ext.refl w).alloc _).alloc _).trans hE7); clear hown hE hr4 hE7; go_wp2; refine bodyPost_ret (results_two rfl _ _ _ _ _ _ _ rfl (set_two hW7 _ _) rfl Tryd.underlying25 (by kernel_rfl)) rfl ?_; exact ⟨_, rfl, (by rw [Hst.out]; exact own_set (w := w) (w' := w7) (by omega) Hown.out _ _), ext_set HE.out _ _⟩
  · have hd : ((N : Int) != 0) = true := by simp; omega
    rw [if_neg hv] at hst
    have Hst := Lib.hid hst
    clear hst
    have hk : RowL (w5.alloc (.cells #[.int .u64 ((a / 8 : Nat) : Int), .int .u64 (N : Int)] 68)) (some ⟨w5.heap.size, 0, none⟩) [(a / 8, N)] 1 := by
      refine ⟨fun _ => ⟨_, _, rfl, by rw [World.size_alloc]; omega, fun i hi => ?_⟩, fun e => (by cases e), by simp, by omega⟩
      obtain rfl : i = 0 := by simpa using hi
      exact ⟨(cell_of_row _ _ _ _ _ _ (heap_alloc_new w5 _)).trans (by simp [atN]), (cell_of_row _ _ _ _ _ _ (heap_alloc_new w5 _)).trans (by simp [vlN])⟩
    have Hk := Lib.hid hk
    clear hv hk
    have hlt5 : w.heap.size < w5.heap.size := by omega
    have hne5 : ¬ w.heap.size = w5.heap.size := by omega
    go_wp2_with fail
    refine (instead_a S A L c (a / 8) 1 m _ [(a / 8, N)] 1 hL (by omega) (by simp; omega) (w5.alloc (.cells #[.int .u64 ((a / 8 : Nat) : Int), .int .u64 (N : Int)] 68)) (hr5.ext ((Ext.refl w5).alloc _)) Hk.out).mono ?_
    rintro e w7 ⟨u, rfl, hown, hE⟩; obtain ⟨A4, c4, rfl, hr4⟩ := own_row hown; have hE7 := hEw.trans (((Ext.refl w5).alloc _).trans hE); have hW7 := ext_blk hE7; have hz0 := (cell_of_row w7 _ 0 _ _ _ hW7).trans rfl; have hz1 := (cell_of_row w7 _ 1 _ _ _ hW7).trans rfl; have hf0 := frozen_of_row w7 _ 0 _ _ hW7; have hf1 := frozen_of_row w7 _ 1 _ _ hW7; have Hown := Lib.hid hown; have HE := Lib.hid ((((Ext.refl w).alloc _).alloc _).trans hE7); clear hown hE hr4 hE7; go_wp2; refine bodyPost_ret (results_two rfl _ _ _ _ _ _ _ rfl (set_two hW7 _ _) rfl Tryd.underlying25 (by kernel_rfl)) rfl ?_; exact ⟨_, rfl, (by rw [Hst.out]; exact own_set (w := w) (w' := w7) (by rw [World.size_alloc]; omega) Hown.out _ _), ext_set HE.out _ _⟩
end Go.Proofs.YticbjiddbjgikaaDoor
