/- Slices whose elements are structs of many cells (entries, sets): read, made by append, stored into. For any such type. -/
import Derived.Test.YticbjiddbjgikaaDoorGmem
import Derived.Test.YticbjiddbjgikaaDoorGagg
import Derived.Maps.AppendAt
import Derived.Deep.MidRow
namespace Go.Proofs.YticbjiddbjgikaaDoor
open Go.ChangeShapes Go.WideShapes Go.ChangeAt Go.RowKit
set_option linter.unusedVariables false
set_option linter.unusedSimpArgs false
set_option maxRecDepth 10000

/-- a type of many cells: itself, the slices of it, how many cells and bytes, a value's cells -/
structure Wide (α : Type) where
  e : TypeId
  sl : TypeId
  sz : Nat
  by' : Nat
  cf : α → Array Value
  d : α
structure WideOk {α : Type} (K : Wide α) : Prop where
  size : ∀ x, (K.cf x).size = K.sz
  one : ∀ x, (K.cf x).all (·.oneCell') = true
  pos : 0 < K.sz
  und : Tryd.prog.underlying K.sl = some (.slice K.e)
  info : ∃ z : Value, (Tryd.prog.info? K.e).map (fun i => (i.zero, i.size, i.bytes)) = some (some z, K.sz, K.by') ∧ z.cells.size = K.sz
section
variable {α : Type} {K : Wide α}
/-- the cells of a list -/
def Wide.flat (K : Wide α) (L : List α) : List Value := L.flatMap fun x => (K.cf x).toList
theorem flat_len (h : WideOk K) : ∀ L : List α, (K.flat L).length = L.length * K.sz
  | [] => by simp [Wide.flat]
  | x :: L => by
    have ih := flat_len h L
    unfold Wide.flat at ih ⊢
    rw [List.flatMap_cons, List.length_append, ih, Array.length_toList, h.size, List.length_cons, Nat.add_mul]; omega
theorem flat_app (L M : List α) : K.flat (L ++ M) = K.flat L ++ K.flat M := by simp [Wide.flat]
theorem flat_one (h : WideOk K) (L : List α) : ∀ u ∈ K.flat L, u.oneCell' = true := by
  intro u hu
  simp only [Wide.flat, List.mem_flatMap] at hu
  obtain ⟨x, _, hx⟩ := hu
  have := h.one x
  rw [Array.all_eq_true_iff_forall_mem] at this
  exact this u (by simpa using hx)
/-- an element's cells among them -/
theorem flat_get (h : WideOk K) : ∀ (L : List α) (i j : Nat), i < L.length → j < K.sz → (K.flat L)[i * K.sz + j]? = (K.cf (L.getD i K.d))[j]?
  | [], i, j, hi, _ => absurd hi (by simp)
  | x :: L, 0, j, _, hj => by
    unfold Wide.flat
    rw [List.flatMap_cons, Nat.zero_mul, Nat.zero_add, List.getElem?_append_left (by rw [Array.length_toList, h.size]; exact hj)]
    simp
  | x :: L, i + 1, j, hi, hj => by
    have ih := flat_get h L i j (by simpa using hi) hj
    unfold Wide.flat at ih ⊢
    rw [List.flatMap_cons, List.getElem?_append_right (by rw [Array.length_toList, h.size, Nat.add_mul]; omega), Array.length_toList, h.size, show (i + 1) * K.sz + j - K.sz = i * K.sz + j by rw [Nat.add_mul]; omega, ih]
    simp

/-- the slice reads as that list -/
def RowV (K : Wide α) (w : World) (A : Option Addr) (L : List α) (c : Nat) : Prop :=
  (0 < L.length → ∃ b off, A = some ⟨b, off, none⟩ ∧ b < w.heap.size ∧ ∀ i, i < L.length → w.rangeAt b (off + i * K.sz) (K.cf (L.getD i K.d)).toList) ∧ (A = none → L = [] ∧ c = 0) ∧ L.length ≤ c ∧ c ≤ 9223372036854775807
theorem rgx_ext {w w' : World} {b o : Nat} {vs : List Value} (h : Ext w w') (k : w.rangeAt b o vs) : w'.rangeAt b o vs := fun j v hj => ext_cell h (k j v hj)
theorem RowV.ext {w w' : World} {A : Option Addr} {L : List α} {c : Nat} (h : RowV K w A L c) (hE : Ext w w') : RowV K w' A L c := by
  refine ⟨fun hp => ?_, h.2⟩
  obtain ⟨b, off, rfl, hlt, hr⟩ := h.1 hp
  exact ⟨b, off, rfl, Nat.lt_of_lt_of_le hlt hE.size, fun i hi => rgx_ext hE (hr i hi)⟩
theorem RowV.nil (w : World) : RowV K w none [] 0 := ⟨fun h => absurd h (by simp), fun _ => ⟨rfl, rfl⟩, by simp, by omega⟩
theorem RowV.at {w : World} {b off : Nat} {L : List α} {c : Nat} (h : RowV K w (some ⟨b, off, none⟩) L c) {i : Nat} (hi : i < L.length) : w.rangeAt b (off + i * K.sz) (K.cf (L.getD i K.d)).toList := by
  obtain ⟨b', off', e, _, hr⟩ := h.1 (by omega)
  injection e with e
  injection e with e1 e2
  subst e1 e2
  exact hr i hi
/-- its cells, one by one -/
theorem RowV.cells (hK : WideOk K) {w : World} {b off : Nat} {L : List α} {c : Nat} (h : RowV K w (some ⟨b, off, none⟩) L c) (j : Nat) (u : Value) (hj : (K.flat L)[j]? = some u) : w.cell? ⟨b, off + j, none⟩ = some u := by
  have hjl : j < L.length * K.sz := by
    rw [← flat_len hK]
    exact (List.getElem?_eq_some_iff.1 hj).1
  have hp := hK.pos
  have hi : j / K.sz < L.length := (Nat.div_lt_iff_lt_mul hp).2 hjl
  have hm := Nat.mod_lt j hp
  have he : j / K.sz * K.sz + j % K.sz = j := by rw [Nat.mul_comm]; exact Nat.div_add_mod j K.sz
  have h1 := flat_get hK L (j / K.sz) (j % K.sz) hi hm
  rw [he, hj] at h1
  have h2 := h.at hi (j % K.sz) u (by rw [Array.getElem?_toList]; exact h1.symm)
  rw [Nat.add_assoc, he] at h2
  exact h2
/-- what the call itself made reads so -/
theorem own_rowv (hK : WideOk K) {w : World} {base : Nat} {v : Value} {L : List α} (h : w.ownsRow base K.e K.sz v L.length (K.flat L)) : ∃ A c, v = .slice A L.length c ∧ RowV K w A L c ∧ ∀ a, A = some a → base ≤ a.block := by
  rcases h.2 with ⟨rfl, h0⟩ | ⟨g, cap, cur, rfl, hbg, hh, hcl, hcm, _, ht⟩
  · have : L = [] := List.eq_nil_of_length_eq_zero h0
    subst this
    exact ⟨none, 0, rfl, RowV.nil w, fun a h => by cases h⟩
  · refine ⟨_, cap, rfl, ⟨fun hl => ⟨g, 0, rfl, (h.lt g rfl).2, fun i hi => ?_⟩, fun e => (by cases e), hcl, by unfold maxLen at hcm; omega⟩, fun a h => by injection h with h; subst h; exact hbg⟩
    intro j u hj
    rw [Array.getElem?_toList] at hj
    have hjz : j < K.sz := by
      have := (Array.getElem?_eq_some_iff.1 hj).1
      rwa [hK.size] at this
    have h1 := flat_get hK L i j hi hjz
    have h2 : i * K.sz + j < L.length * K.sz := by
      have : (i + 1) * K.sz ≤ L.length * K.sz := Nat.mul_le_mul_right _ hi
      rw [Nat.add_mul] at this; omega
    rw [Nat.zero_add, h.cellAt (i * K.sz + j) h2, h1, hj]
/-- a row appended to one that the call made -/
theorem run_append_row (hK : WideOk K) (w : World) (base : Nat) (v : Value) (n : Nat) (xs : List Value) (hown : w.ownsRow base K.e K.sz v n xs) (A : Option Addr) (L : List α) (c : Nat) (hr : RowV K w A L c)
    (hn : (n + L.length) * K.by' ≤ 140737488355328) (hm : n + L.length ≤ maxLen) (hb : base ≤ w.heap.size) (ty : TypeId) :
    ∃ v' w', (Builtin.append_ #[K.sl, K.sl] ty #[v, .slice A L.length c]).run Tryd.prog w = .ok v' w' ∧ w'.ownsRow base K.e K.sz v' (n + L.length) (xs ++ K.flat L) ∧ w.grownBy w' v.ownBlock ∧ (v'.ownBlock = v.ownBlock ∨ v'.ownBlock = some w.heap.size) := by
  obtain ⟨z, hz, hzs⟩ := hK.info
  obtain ⟨i0, hi, hz0, hz1, hz2⟩ := info_parts hz
  rcases A with _ | a
  · obtain ⟨rfl, rfl⟩ := hr.2.1 rfl
    exact ⟨v, w, run_append_owned_none w base K.sl ty K.e i0 K.sz hK.und hi v n xs hown, by simpa [Wide.flat] using hown, World.grownBy.refl w _, .inl rfl⟩
  · obtain ⟨v', w', h1, h2, h3, _, h5⟩ := run_append_own_at (P := Tryd.prog) w base K.sl ty K.e i0 z K.sz K.by' hK.und hi hz0 hz1 hz2 hzs hK.pos v n xs hown a L.length c (K.flat L)
      (flat_len hK L) (by
        intro j u hj
        have hjl : j < L.length * K.sz := by
          rw [← flat_len hK]
          exact (List.getElem?_eq_some_iff.1 hj).1
        have hp : 0 < L.length := by
          rcases Nat.eq_zero_or_pos L.length with h0 | h0
          · rw [h0, Nat.zero_mul] at hjl; omega
          · exact h0
        obtain ⟨b, off, e, _, _⟩ := hr.1 hp
        injection e with e
        subst e
        rw [Addr.add_mid]
        exact hr.cells hK j u hj) (flat_one hK L) hm hn hb
    exact ⟨v', w', h1, h2, h3, h5⟩
/-- an empty row of the call's own -/
theorem own_none (K : Wide α) (w : World) : (w.alloc (.cells #[] K.e)).ownsRow w.heap.size K.e K.sz (.slice (some ⟨w.heap.size, 0, none⟩) 0 0) 0 [] :=
  World.ownsRow_lit (base := w.heap.size) (e := K.e) (size := K.sz) w #[] 0 (Nat.le_refl _) (by unfold maxLen; omega) (by simp)
/-- a row copied: appended to an empty one of the call's own -/
theorem copy_row (hK : WideOk K) (w : World) {A : Option Addr} {L : List α} {c : Nat} (hr : RowV K w A L c) (hn : L.length * K.by' ≤ 140737488355328) (hm : L.length ≤ maxLen) (ty : TypeId) :
    ∃ v' w', (Builtin.append_ #[K.sl, K.sl] ty #[.slice (some ⟨w.heap.size, 0, none⟩) 0 0, .slice A L.length c]).run Tryd.prog (w.alloc (.cells #[] K.e)) = .ok v' w' ∧ w'.ownsRow w.heap.size K.e K.sz v' L.length (K.flat L) ∧ Ext w w' := by
  have hown := own_none K w
  obtain ⟨v', w', h1, h2, h3, _⟩ := run_append_row hK (w.alloc (.cells #[] K.e)) w.heap.size _ 0 [] hown A L c (hr.ext ((Ext.refl w).alloc _)) (by rw [Nat.zero_add]; exact hn) (by rw [Nat.zero_add]; exact hm) (by simp) ty
  rw [Nat.zero_add, List.nil_append] at h2
  refine ⟨v', w', h1, h2, ?_⟩
  exact Below.grown (Below.alloc (Below.refl _ _) (Nat.le_refl _) _) h3 (by simp) (fun k hk => (hown.lt k hk).1)
theorem gap_cell {lo hi : Nat} {w w' : World} {b i : Nat} {v : Value} (h : Gap lo hi w w') (hc : w.cell? ⟨b, i, none⟩ = some v) (hn : b < lo ∨ hi ≤ b) : w'.cell? ⟨b, i, none⟩ = some v := by
  have hl := block_lt_of_cell hc
  simp only at hl
  have := h.2 b hl hn
  rw [← hc]
  simp [World.cell?, this]
theorem rgx_gap {lo hi : Nat} {w w' : World} {b o : Nat} {vs : List Value} (h : Gap lo hi w w') (k : w.rangeAt b o vs) (hn : b < lo ∨ hi ≤ b) : w'.rangeAt b o vs := fun j v hj => gap_cell h (k j v hj) hn
theorem RowV.row {w : World} {A : Option Addr} {L : List α} {c k : Nat} (h : RowV K w A L c) (hk : ∀ a, A = some a → a.block ≠ k) (ds : Array Value) : RowV K (w.setRow k ds) A L c := by
  refine ⟨fun hp => ?_, h.2⟩
  obtain ⟨b, off, rfl, hlt, hr⟩ := h.1 hp
  have hb := hk _ rfl
  simp only at hb
  have hG : Gap k (k + 1) w (w.setRow k ds) := Gap.row w (Nat.le_refl _) (Nat.lt_succ_self _) ds
  exact ⟨b, off, rfl, Nat.lt_of_lt_of_le hlt hG.1, fun i hi => rgx_gap hG (hr i hi) (by omega)⟩
theorem RowV.some {w : World} {A : Option Addr} {L : List α} {c : Nat} (h : RowV K w A L c) (hp : 0 < L.length) : ∃ b off, A = some ⟨b, off, none⟩ ∧ b < w.heap.size ∧ ∀ i, i < L.length → w.rangeAt b (off + i * K.sz) (K.cf (L.getD i K.d)).toList := h.1 hp
end
end Go.Proofs.YticbjiddbjgikaaDoor
/- Rows of words ([]uint64). -/
namespace Go.Proofs.YticbjiddbjgikaaDoor
open Go.ChangeShapes Go.WideShapes Go.ChangeAt Go.RowKit
set_option linter.unusedVariables false
set_option linter.unusedSimpArgs false
set_option maxRecDepth 10000

def KU : Wide Nat := ⟨22, 59, 1, 8, fun z => #[.int .u64 (z : Int)], 0⟩
theorem ku_ok : WideOk KU := ⟨fun _ => rfl, fun z => by simp [KU, Value.oneCell'], by decide, Tryd.underlying59, ⟨.int .u64 0, by kernel_rfl, rfl⟩⟩
/-- an element's cell -/
theorem ku_at {W : World} {L : List Nat} {b off c : Nat} (h : RowV KU W (some ⟨b, off, none⟩) L c) {i : Nat} (hi : i < L.length) : W.cell? ⟨b, off + i, none⟩ = some (.int .u64 ((L.getD i 0 : Nat) : Int)) ∧ b < W.heap.size := by
  obtain ⟨b', off', e, hb, hx⟩ := h.1 (by omega)
  injection e with e
  injection e with e1 e2
  subst e1 e2
  have := hx i hi 0 _ rfl
  rw [show KU.sz = 1 from rfl, Nat.mul_one, Nat.add_zero] at this
  exact ⟨this, hb⟩
/-- a word more, at the end of a row that the call made -/
theorem ku_flat_one (M : List Nat) (z : Nat) : KU.flat M ++ [.int .u64 (z : Int)] = KU.flat (M ++ [z]) := by
  unfold Wide.flat
  rw [List.flatMap_append]; rfl
end Go.Proofs.YticbjiddbjgikaaDoor
