/- The document's answers for layer 13 (package atlasref13): Right, Same, Find, Use, Drop, Put, Unlike. -/
import Derived.Test.YtlhoedpencmikaaDoorGcthir
import Derived.Test.YtlhoedpencmikaaDoorGrtwel
namespace Go.Proofs.YtlhoedpencmikaaDoor
open Go.ChangeShapes Go.WideShapes Go.ChangeAt Go.RowKit
set_option linter.unusedVariables false
set_option linter.unusedSimpArgs false
set_option maxRecDepth 10000

set_option maxRecDepth 100000 in
theorem rright13_c (s : St) (w : World) :
    Calls Tryd.prog 38 #[.agg (stC s)] w fun r w' => r = .returned (.bool (rightS s)) ∧ Ext w w' := by
  have h1 := Blk.new w 55 (stC s)
  have HE := Lib.hid ((Ext.refl w).alloc (.cells (stC s) 55))
  have hr := @right_yes s
  have hn := @right_no s
  go_enter Tryd.func38, Tryd.ntmps38
  go_wp2
  go_loopw [3] (fun i wr => ∃ k : Nat, k ≤ 4 ∧ i = .int .i64 k ∧ Hid (∀ j, j < k → mayE (s.ws.at j) = true) ∧ Blk wr w.heap.size 55 (stC s) ∧ Ext w wr) (fun i _ => (4 - intOf i).toNat)
  case atStart => exact ⟨0, by omega, rfl, Lib.hid (fun j hj => absurd hj (by omega)), h1, HE.out⟩
  case round =>
    clear h1 HE
    obtain ⟨k, hk, rfl, I, h1, hE⟩ := hrel
    have HE := Lib.hid hE
    clear hE
    by_cases hlt : k < 4
    · have hkz : (k : Int) < 4 := by omega
      have hm := fun w => rmay12_c (s.ws.at k) w
      have hat := stC_at s hlt
      have hnk := @hn k hlt
      have IK : mayE (s.ws.at k) = true → Hid (∀ j, j < k + 1 → mayE (s.ws.at j) = true) := fun h => Lib.hid fun j hj => by
        rcases Nat.lt_or_ge j k with h1 | h1
        · exact I.out j h1
        · obtain rfl : j = k := by omega
          exact h
      clear hr hn
      generalize s.ws.at k = e at *
      generalize mayE e = B at *
      go_wp2_with (refine wpList_load_part (by rfl) 52 _ rfl rfl h1 (hat) Tryd.underlying52 rfl (en_info _) ?_)
      refine (hm _).mono ?_
      rintro e1 w' ⟨rfl, hE⟩
      replace h1 := h1.ext hE; (replace HE := Lib.hid (HE.out.trans hE))
      clear hE hm hat
      cases B
      · have HZ := Lib.hid (hnk rfl)
        clear IK hnk
        go_wp2
        go_ret
        exact ⟨by rw [HZ.out]; rfl, HE.out⟩
      · have I2 := IK rfl
        clear IK hnk I
        go_wp2
        go_roundw
        case rel => exact ⟨k + 1, by omega, by go_num, I2, h1, HE.out⟩
        case measure => simp [intOf]; omega
    · obtain rfl : k = 4 := by omega
      have x44 := h1.st_t
      have HZ := Lib.hid (hr I.out)
      clear hr hn
      go_wp2
      go_ret
      exact ⟨by rw [← HZ.out]; rfl, HE.out⟩


end Go.Proofs.YtlhoedpencmikaaDoor
/- The document's Put and Unlike of layer 13. -/
namespace Go.Proofs.YtlhoedpencmikaaDoor
open Go.ChangeShapes Go.WideShapes Go.ChangeAt Go.RowKit
set_option linter.unusedVariables false
set_option linter.unusedSimpArgs false
set_option maxRecDepth 10000

/-- behind the dropping of those of the same page, from the last way down to k -/
def dropD (e : En) (s : Ws) (k : Nat) : Ws := ⟨if k ≤ 0 ∧ sameE e s.a = true then e0 else s.a, if k ≤ 1 ∧ sameE e s.b = true then e0 else s.b, if k ≤ 2 ∧ sameE e s.c = true then e0 else s.c, if k ≤ 3 ∧ sameE e s.d = true then e0 else s.d⟩
theorem dropD_at (e : En) (s : Ws) (k : Nat) {j : Nat} (hj : j < 4) : (dropD e s k).at j = if k ≤ j ∧ sameE e (s.at j) = true then e0 else s.at j := by
  rcases k_four hj with rfl | rfl | rfl | rfl <;> rfl
theorem dropD_4 (e : En) (s : Ws) : dropD e s 4 = s := ws_ext fun j hj => by rw [dropD_at e s 4 hj, if_neg (by omega)]
theorem dropD_0 (e : En) (s : Ws) : dropD e s 0 = cutW e s := ws_ext fun j hj => by
  rw [dropD_at e s 0 hj, cut_at e s hj]
  cases sameE e (s.at j) <;> simp
theorem dropD_own (e : En) (s : Ws) {k : Nat} (hk : k < 4) : (dropD e s (k + 1)).at k = s.at k := by
  rw [dropD_at e s (k + 1) hk, if_neg (by omega)]
theorem dropD_cut (e : En) (s : Ws) {k : Nat} (hk : k < 4) : (dropD e s k).at k = (cutW e s).at k := by
  rw [dropD_at e s k hk, cut_at e s hk]
  cases sameE e (s.at k) <;> simp
theorem dropD_yes {e : En} {s : Ws} {k : Nat} (hk : k < 4) (h : sameE e (s.at k) = true) : (dropD e s (k + 1)).put k e0 = dropD e s k := ws_ext fun j hj => by
  rw [at_put hk hj, dropD_at e s k hj, dropD_at e s (k + 1) hj]
  by_cases hjk : j = k
  · subst hjk
    rw [if_pos rfl, if_pos ⟨Nat.le_refl _, h⟩]
  · rw [if_neg hjk]
    by_cases hl : k ≤ j ∧ sameE e (s.at j) = true
    · rw [if_pos hl, if_pos ⟨by omega, hl.2⟩]
    · rw [if_neg hl, if_neg (fun h2 => hl ⟨by omega, h2.2⟩)]
theorem dropD_no {e : En} {s : Ws} {k : Nat} (hk : k < 4) (h : sameE e (s.at k) = false) : dropD e s (k + 1) = dropD e s k := ws_ext fun j hj => by
  rw [dropD_at e s k hj, dropD_at e s (k + 1) hj]
  by_cases hjk : j = k
  · subst hjk
    rw [if_neg (by omega), if_neg (by rw [h]; simp)]
  · by_cases hl : k ≤ j ∧ sameE e (s.at j) = true
    · rw [if_pos hl, if_pos ⟨by omega, hl.2⟩]
    · rw [if_neg hl, if_neg (fun h2 => hl ⟨by omega, h2.2⟩)]
attribute [irreducible] dropD
/-- the least empty way from k on, or -1 -/
def AtSt (s : Ws) (k : Nat) (a : Int) : Prop := (a = -1 ∧ ∀ j, k ≤ j → j < 4 → emptyE (s.at j) = false) ∨ (∃ i : Nat, a = i ∧ k ≤ i ∧ i < 4 ∧ emptyE (s.at i) = true ∧ ∀ j, k ≤ j → j < i → emptyE (s.at j) = false)
theorem ats_4 (s : Ws) : AtSt s 4 (-1) := .inl ⟨rfl, fun j h1 h2 => by omega⟩
theorem ats_yes {s : Ws} {k : Nat} (hk : k < 4) (h : emptyE (s.at k) = true) : AtSt s k k := .inr ⟨k, rfl, Nat.le_refl _, hk, h, fun j h1 h2 => by omega⟩
theorem ats_no {s : Ws} {k : Nat} {a : Int} (hk : k < 4) (h : emptyE (s.at k) = false) (H : AtSt s (k + 1) a) : AtSt s k a := by
  rcases H with ⟨h1, h2⟩ | ⟨i, h1, h2, h3, h4, h5⟩
  · refine .inl ⟨h1, fun j hj hj4 => ?_⟩
    by_cases hjk : j = k
    · rw [hjk]; exact h
    · exact h2 j (by omega) hj4
  · refine .inr ⟨i, h1, by omega, h3, h4, fun j hj hj4 => ?_⟩
    by_cases hjk : j = k
    · rw [hjk]; exact h
    · exact h5 j (by omega) hj4
theorem ats_end {s : Ws} {a : Int} (H : AtSt s 0 a) : (a = -1 ∧ fbW emptyE s = false) ∨ (0 ≤ a ∧ fbW emptyE s = true ∧ a = (fiW emptyE s : Nat)) := by
  rcases H with ⟨h1, h2⟩ | ⟨i, h1, h2, h3, h4, h5⟩
  · exact .inl ⟨h1, (fi_none fun j hj => h2 j (by omega) hj).2⟩
  · have := fi_hit h3 (fun j hj => h5 j (by omega) hj) h4
    exact .inr ⟨by omega, this.2, by rw [this.1]; exact h1⟩
/-- the way that is filled, by the document's words -/
theorem way_ends {e : En} {v : Int} {s : St} {a : Int} (H : AtSt (cutW e s.ws) 0 a) :
    (a = -1 ∧ ((0 ≤ v ∧ v ≤ 3 ∧ v = (wayS e v s : Nat)) ∨ (¬ (0 ≤ v ∧ v ≤ 3) ∧ viN s.t = wayS e v s))) ∨ (0 ≤ a ∧ ((0 ≤ v ∧ v ≤ 3 ∧ v = (wayS e v s : Nat)) ∨ (¬ (0 ≤ v ∧ v ≤ 3) ∧ a = (wayS e v s : Nat)))) := by
  by_cases hv : 0 ≤ v ∧ v ≤ 3
  · have := way_vic (e := e) (s := s) hv.1 (show v < 4 by omega)
    rcases ats_end H with ⟨h1, h2⟩ | ⟨h1, h2, h3⟩
    · exact .inl ⟨h1, .inl ⟨hv.1, hv.2, this.symm⟩⟩
    · exact .inr ⟨h1, .inl ⟨hv.1, hv.2, this.symm⟩⟩
  · have hv4 : ¬ (0 ≤ v ∧ v < 4) := fun h => hv ⟨h.1, by omega⟩
    rcases ats_end H with ⟨h1, h2⟩ | ⟨h1, h2, h3⟩
    · exact .inl ⟨h1, .inr ⟨hv, (way_old hv4 h2).symm⟩⟩
    · exact .inr ⟨h1, .inr ⟨hv, by rw [h3, way_fst hv4 h2]⟩⟩
attribute [irreducible] AtSt


end Go.Proofs.YtlhoedpencmikaaDoor
