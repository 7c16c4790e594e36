/- Layer 16, as plain values: where an access leads is within bounds, and a multiple of its size; how long memories grow. No program. -/
import Derived.Test.YtlhoedpencmikaaGreatDoorMharta
import Derived.Test.YtlhoedpencmikaaGreatDoorGtwo
namespace Go.Proofs.YtlhoedpencmikaaGreatDoor
set_option linter.unusedVariables false
set_option linter.unusedSimpArgs false

theorem place_ok {pp a s : Nat} {l : Int} (hs : IsSize s) (ha : a % s = 0) (l0 : 0 ≤ l) (l2 : l ≤ 2) (hp : pp < 17592186044416) : ((pp : Int) * 4096 + offI (a : Int) l).toNat % s = 0 ∧ ((pp : Int) * 4096 + offI (a : Int) l).toNat < 18446744073709551616 := by
  unfold IsSize at hs
  unfold offI
  rcases level_lt l0 l2 with rfl | rfl | rfl
  · rw [siz0]; rcases hs with rfl | rfl | rfl | rfl <;> omega
  · rw [siz1]; rcases hs with rfl | rfl | rfl | rfl <;> omega
  · rw [siz2]; rcases hs with rfl | rfl | rfl | rfl <;> omega
theorem atH_ok {S : Nat} {M : List (Nat × Nat)} {h : Hr} {k a s : Nat} (hr : rightH h = true) (hM : RL (S / 8) M) (a1 : a < 18446744073709551616) (hs : IsSize s) (ha : a % s = 0) (hso : soH S M h k a = 0) : atH S M h k a % s = 0 ∧ atH S M h k a < 18446744073709551616 := by
  obtain ⟨r1, r2, -⟩ := right_split hr
  rcases tr_cases hso with ⟨-, e, -, -⟩ | ⟨-, -, hh, e, -, -⟩ | ⟨-, -, -, hw, e, -, -⟩
  · rw [e]; exact ⟨ha, a1⟩
  · have hok := (hit_ok hh).1
    obtain ⟨hmem, hcov⟩ := found_mem hok
    have hm := all_may r1 hmem
    have kk := may_v hm (cov_valid hcov)
    have hp : (enT (h.sp.ai : Int) (a : Int) h.L).pp < 17592186044416 := by have := (may_lt hm).2; omega
    have l0 := kk.l0
    have l2 := kk.l2
    rw [e]
    generalize enT (h.sp.ai : Int) (a : Int) h.L = en at *
    unfold phyE
    exact place_ok hs ha l0 l2 hp
  · have P := puts (n := h.sp.ai) hM a1 (sm_fits r2).2.1 hw
    obtain ⟨-, -, e3⟩ := walk_yes P.so P.al
    have hlv : (walkF S M h.sp.pp a (wayH h k)).lv = (lookN S M h.sp.pp a).lf.lv := (congrArg Lf.lv e3).trans (upd_lv _ _)
    have hpt : (walkF S M h.sp.pp a (wayH h k)).pt = usedP (lookN S M h.sp.pp a).lf.pt ((wayH h k).kd == 2) := (congrArg Lf.pt e3).trans (upd_pt _ _)
    have hpp := used_pp (lookN S M h.sp.pp a).lf.pt ((wayH h k).kd == 2)
    have hg := (leaf_g P.lf).2.2
    have l0 := P.lf.l0
    have l2 := P.lf.l2
    rw [e]
    clear e3 P e hw
    generalize walkF S M h.sp.pp a (wayH h k) = F at *
    unfold phyN
    exact place_ok hs ha (by rw [hlv]; exact l0) (by rw [hlv]; exact l2) (by rw [hpt, hpp, hg]; exact ent_pp _ _)
theorem mH_len {S : Nat} {M : List (Nat × Nat)} {h : Hr} {k a : Nat} (hM : RL (S / 8) M) (h8 : S % 8 = 0) (hso : soH S M h k a = 0) : (mH S M h k a).length ≤ M.length + 1 := by
  rcases (mH_is hM h8 hso).2 with e | ⟨p, d, -, -, e⟩
  · rw [e]; omega
  · rw [e]; unfold markL; exact storeL_len _ _ _ _
end Go.Proofs.YtlhoedpencmikaaGreatDoor
