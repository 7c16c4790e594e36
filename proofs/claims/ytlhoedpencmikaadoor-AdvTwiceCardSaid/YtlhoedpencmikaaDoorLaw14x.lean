/- Layer 14: what the laws take of the package's calls (TlbC); TlbAsid over it. -/
import Derived.Test.YtlhoedpencmikaaDoorGrtlb
import Derived.Test.YtlhoedpencmikaaDoorOpen14
import Derived.Deep.Cut
import Derived.Deep.CutRange
namespace Go.Proofs.YtlhoedpencmikaaDoor
open Go.ChangeShapes Go.WideShapes Go.ChangeAt Go.RowKit
set_option linter.unusedVariables false
set_option linter.unusedSimpArgs false

/-- a buffer that a call answers -/
def TlbR (L : List St) (w : World) (r : Ending) (w' : World) : Prop := ∃ A c, r = .returned (.agg #[.slice A L.length c]) ∧ RowV KS w' A L c ∧ Ext w w'
theorem all_may {L : List St} (h : rightT L = true) {e : En} (he : e ∈ allT L) : mayE e = true := by
  unfold allT at he
  rw [List.mem_flatMap] at he
  obtain ⟨s, hs, he⟩ := he
  obtain ⟨i, hi, hsi⟩ := List.getElem_of_mem hs
  obtain ⟨_, w, hw, rfl⟩ := mem_ls he
  have hst : sT L i = s := by rw [sT_eq]; simp [List.getD, hi, hsi]
  rw [← hst]
  exact rt_may h hi hw
theorem getD_mem {α : Type} {L : List α} {d : α} {i : Nat} (h : i < L.length) : L.getD i d ∈ L := by simp [List.getD, h]
theorem mem_getD {α : Type} {L : List α} {d x : α} (h : x ∈ L) : ∃ i, i < L.length ∧ L.getD i d = x := by
  obtain ⟨i, hi, he⟩ := List.getElem_of_mem h
  exact ⟨i, hi, by simp [List.getD, hi, he]⟩
/-- no covers so far -/
def Nc (B : Bool) (P : Prop) : Prop := B = false → P
theorem nc_of {B : Bool} {P : Prop} (h : B = false → P) : Nc B P := h
theorem nc_out {P : Prop} (h : Nc false P) : P := h rfl
attribute [irreducible] Nc
end Go.Proofs.YtlhoedpencmikaaDoor
/- TlbFinds, over the package's contracts (TlbC). -/
namespace Go.Proofs.YtlhoedpencmikaaDoor
open Go.ChangeShapes Go.WideShapes Go.ChangeAt Go.RowKit
set_option linter.unusedVariables false
set_option linter.unusedSimpArgs false

theorem e0_ok14 : e0.ok := by unfold e0 En.ok Pm.ok; decide
theorem ok_of14 {s : St} (ht : s.t < 256) (h : ∀ k, k < 4 → (s.ws.at k).ok) : s.ok := ⟨⟨h 0 (by decide), h 1 (by decide), h 2 (by decide), h 3 (by decide)⟩, ht⟩
theorem putS_ok14 {s : St} (hs : s.ok) (ht : s.t < 8) {e : En} (he : e.ok) (v : Int) : (putS e v s).ok := ok_of14 (by rw [putS_t]; have := to_lt ht (wayS e v s); omega) fun k hk => by
  rw [putS_at ht hk]
  split
  · exact he
  split
  · exact e0_ok14
  · exact at_ok hs.1 hk
theorem found_may {n a : Int} {L : List St} (hr : rightT L = true) (h : okT n a L = true) : mayE (enT n a L) = true := all_may hr (found_mem h).1
end Go.Proofs.YtlhoedpencmikaaDoor
/- TlbUnlike, over the package's contracts (TlbC). -/
namespace Go.Proofs.YtlhoedpencmikaaDoor
open Go.ChangeShapes Go.WideShapes Go.ChangeAt Go.RowKit
set_option linter.unusedVariables false
set_option linter.unusedSimpArgs false

theorem sT_rep (n i : Nat) : sT (List.replicate n s0) i = s0 := by
  unfold sT
  rw [List.getD_eq_getElem?_getD, List.getElem?_replicate]
  split <;> rfl
theorem s0_at {w : Nat} (hw : w < 4) : s0.ws.at w = e0 := by rcases k_four hw with rfl | rfl | rfl | rfl <;> rfl
theorem rt_rep {n : Nat} (h : n ≤ 16) : rightT (List.replicate n s0) = true := rt_of (by simpa using h) fun i hi => by
  rw [sT_rep]
  exact rightAt_of right_s0 fun w hw => by rw [s0_at hw]; exact in_e0 _ _
theorem unl_s0 : unlS s0.ws = true := by kernel_rfl
theorem unl_rep (n : Nat) : unlT (List.replicate n s0) := fun i hi => by rw [sT_rep]; exact unl_s0
theorem rngV {w : World} {b o : Nat} {e : En} (h : w.rangeAt b o (enC e).toList) : w.cell? ⟨b, o, none⟩ = some (.bool e.v) := h 0 _ (by rw [Array.getElem?_toList, enC_v])
/-- a buffer's sets lie in no block of a buffer -/
theorem rowv_tlb {w : World} {A : Option Addr} {L : List St} {c g : Nat} {x : Value} (h : RowV KS w A L c) (hb : Blk w g 24 #[x]) (ds : Array Value) : RowV KS (w.setRow g ds) A L c := by
  by_cases h0 : L.length = 0
  · exact ⟨fun hp => absurd hp (by omega), h.2⟩
  obtain ⟨b, off, rfl, hlt, hr⟩ := h.some (by omega)
  refine h.row (fun a ha => ?_) ds
  cases ha
  intro hg
  obtain rfl : b = g := hg
  have h1 := hr 0 (by omega) 1 _ (by rw [Array.getElem?_toList]; exact Array.getElem?_eq_getElem (by show 1 < (stC _).size; rw [stC_size]; omega))
  have h2 := hb.cell (off + 0 * KS.sz + 1)
  rw [h2] at h1
  rw [Array.getElem?_eq_none (by simp)] at h1
  cases h1
theorem ok_rep (n : Nat) : ∀ i, i < (List.replicate n s0).length → (sT (List.replicate n s0) i).ok := fun i hi => by
  rw [sT_rep]
  exact ok_of14 (by decide) fun k hk => by rw [s0_at hk]; exact e0_ok14
theorem ok_put {L : List St} (hrt : rightT L = true) {e : En} (hm : mayE e = true) (hok : ∀ i, i < L.length → (sT L i).ok) (he : e.ok) (v : Int) : ∀ i, i < (putT e v L).length → (sT (putT e v L) i).ok := fun i hi => by
  rw [putT_len] at hi
  have hp : 0 < L.length := by omega
  have hx := ix_lt hp (e.vp : Int) e.l
  rw [putT_pos hp, sT_set hx]
  split
  · exact putS_ok14 (hok _ hx) (right_t (rt_s hrt hx)) he v
  · exact hok i hi
theorem pw_at {E : List En} (h : E.Pairwise fun x y => sameE y x = false) {i j : Nat} (hj : j < i) (hi : i < E.length) : sameE (E.getD i e0) (E.getD j e0) = false := by
  rw [List.pairwise_iff_getElem] at h
  have := h j i (by omega) hi hj
  simpa [List.getD, hi, show j < E.length by omega] using this
theorem tlb_en {w : World} {g o : Nat} {x : Value} {e : En} (hb : Blk w g 24 #[x]) (h : w.rangeAt g o (enC e).toList) : False := by
  have h1 := h 1 _ (by rw [Array.getElem?_toList]; exact Array.getElem?_eq_getElem (by rw [enC_size]; omega))
  have h2 := hb.cell (o + 1)
  rw [h2] at h1
  rw [Array.getElem?_eq_none (by simp)] at h1
  cases h1
/-- a struct loaded where nothing else can come up -/
theorem seq_load_now {P : Program} {ops : Array Oper} {R : World → World → Prop} {Q : Exit → Act → World → Prop} {N : Act → World → Prop} {o : Oper} {r : List (Oper × Bool)} {a : Act} {w : World} {ty t : TypeId} {x : Operand} {g : Nat} {cs : Array Value} {d : TypeDesc}
    (hop : o.op = .load ty x) (hx : a.eval x = .pointer (some ⟨g, 0, none⟩)) (hb : Blk w g t cs)
    (hd : (match d with | .struct _ | .array _ _ => true | _ => false) = true) (hu : P.underlying ty = some d) (hi : (P.info? ty).map (·.size) = some cs.size) (hw : Region.wanted o (yielded ops a.tmps) = true) (hR : R w w)
    (k : ∀ K : Act → World → Prop, (∀ a' w', wpSeq P ops R Q N r a' w' → K a' w') → K (a.put o.dst (.agg cs)) w) : wpSeq P ops R Q N ((o, true) :: r) a w :=
  seq_run (.agg cs) w hw (by
    unfold execOp
    simp only [hop, hx, Instr.loadAt, Instr.sureAddr, Sem.run_bind, Sem.run_pure, Result.andThen_ok, run_loadVar_row w g t ty cs (0, 0) d hb hu (by cases d <;> first | rfl | exact hd) hi]) hR k
end Go.Proofs.YtlhoedpencmikaaDoor
/- TlbOne, over the package's contracts (TlbC). -/
namespace Go.Proofs.YtlhoedpencmikaaDoor
open Go.ChangeShapes Go.WideShapes Go.ChangeAt Go.RowKit
set_option linter.unusedVariables false
set_option linter.unusedSimpArgs false

/-- what one change leaves of a buffer -/
structure OneT (L T : List St) : Prop where
  len : T.length = L.length
  right : rightT T = true
  all : (allT T).length ≤ (allT L).length + 1
  one : ∃ x, ∀ k, k < L.length → k ≠ x → sT T k = sT L k
theorem one_of {L : List St} {i : Nat} (hi : i < L.length) {s : St} (hr : rightT (L.set i s) = true) (hc : cntW s.ws ≤ cntW (sT L i).ws + 1) : OneT L (L.set i s) := by
  refine ⟨by rw [List.length_set], hr, ?_, i, fun k hk hne => ?_⟩
  · have := all_set hi s
    omega
  · rw [sT_set hi, if_neg hne]
theorem one_put {L : List St} (hrt : rightT L = true) (hp : 0 < L.length) {e : En} (hm : mayE e = true) (v : Int) : OneT L (putT e v L) := by
  have hx := ix_lt hp (e.vp : Int) e.l
  have h := rt_put hrt hm v
  rw [putT_pos hp] at h ⊢
  exact one_of hx h (cnt_putS (right_t (rt_s hrt hx)) e v)
theorem one_use {L : List St} (hrt : rightT L = true) {i : Nat} (hi : i < L.length) (y : Nat) : OneT L (useT L i y) := by
  have h := rt_use hrt hi y
  rw [← useT_eq] at h ⊢
  exact one_of hi h (Nat.le_succ _)
theorem drop_cnt {L : List St} {i y : Nat} (hi : i < L.length) (hy : y < 4) : (allT (dropT L i y)).length + ((sT L i).ws.at y).v.toNat = (allT L).length := by
  rw [← dropT_eq]
  have h1 := all_set hi ((sT L i).put y e0)
  have h2 := cnt_put (sT L i).ws hy e0
  rw [e0_v] at h2
  have h3 : cntW ((sT L i).put y e0).ws = cntW ((sT L i).ws.put y e0) := rfl
  rw [h3] at h1
  simp only [Bool.toNat_false] at h2
  omega
theorem one_drop {L : List St} (hrt : rightT L = true) {i y : Nat} (hi : i < L.length) (hy : y < 4) : OneT L (dropT L i y) := by
  have h := rt_drop hrt hi hy
  have h2 := drop_cnt hi hy
  refine ⟨by rw [← dropT_eq, List.length_set], h, by omega, i, fun k hk hne => ?_⟩
  rw [← dropT_eq, sT_set hi, if_neg hne]
theorem drop_gone {L : List St} {i y : Nat} (hi : i < L.length) (hy : y < 4) : ((sT (dropT L i y) i).ws.at y).v = false := by
  rw [← dropT_eq, sT_set hi, if_pos rfl]
  show (((sT L i).ws.put y e0).at y).v = false
  rw [at_put hy hy, if_pos rfl, e0_v]
section
variable {α : Type} {K : Wide α}
/-- one element behind a row that the call made -/
theorem run_append_one14 (hK : WideOk K) (w : World) (base : Nat) (v : Value) (M : List α) (hown : w.ownsRow base K.e K.sz v M.length (K.flat M)) (x : α) (hn : (M.length + 1) * K.by' ≤ 140737488355328) (hm : M.length + 1 ≤ maxLen) (hb : base ≤ w.heap.size) (ty : TypeId) :
    ∃ v' w', (Builtin.append_ #[K.sl, K.sl] ty #[v, .slice (some ⟨w.heap.size, 0, none⟩) 1 1]).run Tryd.prog (w.alloc (.cells (K.cf x) K.e)) = .ok v' w' ∧
      w'.ownsRow base K.e K.sz v' (M ++ [x]).length (K.flat (M ++ [x])) ∧ (w.alloc (.cells (K.cf x) K.e)).grownBy w' v.ownBlock := by
  have hblk := Blk.new w K.e (K.cf x)
  have hrow : RowV K (w.alloc (.cells (K.cf x) K.e)) (some ⟨w.heap.size, 0, none⟩) [x] 1 := by
    refine ⟨fun _ => ⟨w.heap.size, 0, rfl, hblk.lt, fun i hi => ?_⟩, (fun h => by cases h), (by simp), (by omega)⟩
    obtain rfl : i = 0 := by simp at hi; omega
    have := hblk.part 0 (ds := K.cf x) (by rw [Nat.zero_add]; simp)
    simpa using this
  have hown1 := World.ownsRow.alloc hown (.cells (K.cf x) K.e)
  obtain ⟨v', w', h1, h2, h3, _⟩ := run_append_row hK (w.alloc (.cells (K.cf x) K.e)) base v M.length (K.flat M) hown1 (some ⟨w.heap.size, 0, none⟩) [x] 1 hrow (by simpa using hn) (by simpa using hm) (by simp; omega) ty
  exact ⟨v', w', h1, by rw [flat_app, List.length_append]; exact h2, h3⟩
end
theorem grown_gap {w w' : World} {g : Nat} (h : w.grownBy w' (some g)) : Gap g (g + 1) w w' := ⟨h.size, fun b hb hn => h.block b hb (fun e => by injection e with e; omega)⟩
theorem RowV.gap {α : Type} {K : Wide α} {lo hi : Nat} {w w' : World} {A : Option Addr} {L : List α} {c : Nat} (hE : Gap lo hi w w') (h : RowV K w A L c) (hn : ∀ a, A = Option.some a → a.block < lo ∨ hi ≤ a.block) : RowV K w' A L c := by
  refine ⟨fun hp => ?_, h.2⟩
  obtain ⟨b, off, rfl, hlt, hr⟩ := h.1 hp
  exact ⟨b, off, rfl, Nat.lt_of_lt_of_le hlt hE.1, fun i hi => rgx_gap hE (hr i hi) (hn _ rfl)⟩
theorem grown_ext {w x w' : World} {g : Nat} (h : Ext w x) (hg : x.grownBy w' (some g)) (hw : w.heap.size ≤ g) : Ext w w' := Below.grown h hg h.size (fun k hk => by injection hk with hk; omega)
/-- a row of sets isn't a row of slices -/
theorem row_ne {w : World} {A : Option Addr} {L : List St} {c g : Nat} {t : TypeId} {B D : Option Addr} {n n' d d' : Nat} (hr : RowV KS w A L c) (hp : 0 < L.length) (hb : Blk w g t #[.slice B n d, .slice D n' d']) : ∀ a, A = Option.some a → a.block < g ∨ g + 1 ≤ a.block := by
  intro a ha
  obtain ⟨b, off, rfl, -, hx⟩ := hr.some hp
  injection ha with ha
  subst ha
  show b < g ∨ g + 1 ≤ b
  rcases Nat.lt_trichotomy b g with h | h | h
  · exact .inl h
  · exfalso
    subst h
    have h1 := rng_cell (rng_way (show w.rangeAt b (off + 0 * 45) (stC (L.getD 0 s0)).toList from hx 0 hp) (show 0 < 4 by decide)) 0 (enC_v _)
    simp only [Nat.zero_mul, Nat.add_zero] at h1
    have h2 := hb.cell off
    rw [h1] at h2
    match off, h2 with
    | 0, h2 => cases h2
    | 1, h2 => cases h2
    | k + 2, h2 => simp at h2
  · exact .inr h
end Go.Proofs.YtlhoedpencmikaaDoor
