/- The document's answers for layer 13 (package atlasref13): Right, Same, Find, Use, Drop, Put, Unlike. -/
import Derived.Test.YtledkljbegpdpaaGreatDoorGcthir
import Derived.Test.YtledkljbegpdpaaGreatDoorGrtwel
namespace Go.Proofs.YtledkljbegpdpaaGreatDoor
open Go.ChangeShapes Go.WideShapes Go.ChangeAt Go.RowKit
set_option linter.unusedVariables false
set_option linter.unusedSimpArgs false
set_option maxRecDepth 10000

set_option maxRecDepth 100000 in
theorem rright13_c (s : St) (w : World) :
    Calls Tryz.prog 63 #[.agg (stC s)] w fun r w' => r = .returned (.bool (rightS s)) ∧ Ext w w' := by
  have h1 := Blk.new w 55 (stC s)
  have HE := Lib.hid ((Ext.refl w).alloc (.cells (stC s) 55))
  have hr := @right_yes s
  have hn := @right_no s
  go_enter Tryz.func63, Tryz.ntmps63
  go_wp2
  go_loopw [3] (fun i wr => ∃ k : Nat, k ≤ 4 ∧ i = .int .i64 k ∧ Hid (∀ j, j < k → mayE (s.ws.at j) = true) ∧ Blk wr w.heap.size 55 (stC s) ∧ Ext w wr) (fun i _ => (4 - intOf i).toNat)
  case atStart => exact ⟨0, by omega, rfl, Lib.hid (fun j hj => absurd hj (by omega)), h1, HE.out⟩
  case round =>
    clear h1 HE
    obtain ⟨k, hk, rfl, I, h1, hE⟩ := hrel
    have HE := Lib.hid hE
    clear hE
    by_cases hlt : k < 4
    · have hkz : (k : Int) < 4 := by omega
      have hm := fun w => rmay12_c (s.ws.at k) w
      have hat := stC_at s hlt
      have hnk := @hn k hlt
      have IK : mayE (s.ws.at k) = true → Hid (∀ j, j < k + 1 → mayE (s.ws.at j) = true) := fun h => Lib.hid fun j hj => by
        rcases Nat.lt_or_ge j k with h1 | h1
        · exact I.out j h1
        · obtain rfl : j = k := by omega
          exact h
      clear hr hn
      generalize s.ws.at k = e at *
      generalize mayE e = B at *
      go_wp2_with (refine wpList_load_part (by rfl) 52 _ rfl rfl h1 (hat) Tryz.underlying52 rfl (en_info _) ?_)
      refine (hm _).mono ?_
      rintro e1 w' ⟨rfl, hE⟩
      (try replace hm := hm.ext hE); (try replace h1 := h1.ext hE); (try replace HE := Lib.hid (HE.out.trans hE))
      clear hE hm hat
      cases B
      · have HZ := Lib.hid (hnk rfl)
        clear IK hnk
        go_wp2
        go_ret
        exact ⟨by rw [HZ.out]; rfl, HE.out⟩
      · have I2 := IK rfl
        clear IK hnk I
        go_wp2
        go_roundw
        case rel => exact ⟨k + 1, by omega, by go_num, I2, h1, HE.out⟩
        case measure => simp [intOf]; omega
    · obtain rfl : k = 4 := by omega
      have x44 := h1.st_t
      have HZ := Lib.hid (hr I.out)
      clear hr hn
      go_wp2
      go_ret
      exact ⟨by rw [← HZ.out]; rfl, HE.out⟩


end Go.Proofs.YtledkljbegpdpaaGreatDoor
/- The document's Put and Unlike of layer 13. -/
namespace Go.Proofs.YtledkljbegpdpaaGreatDoor
open Go.ChangeShapes Go.WideShapes Go.ChangeAt Go.RowKit
set_option linter.unusedVariables false
set_option linter.unusedSimpArgs false
set_option maxRecDepth 10000

end Go.Proofs.YtledkljbegpdpaaGreatDoor
