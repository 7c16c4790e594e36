/- Package pte: Put. -/
import Derived.Test.YtdifjgppnfcnnaaDoorCpte
namespace Go.Proofs.YtdifjgppnfcnnaaDoor
open Go.ChangeShapes Go.WideShapes Go.ChangeAt Go.RowKit
set_option linter.unusedVariables false
set_option linter.unusedSimpArgs false

theorem flC_pt (p : Pt) : flC (ptB p) = #[.int .i64 0, .bool p.v, .int .i64 1, .bool p.r, .int .i64 2, .bool p.w, .int .i64 3, .bool p.x, .int .i64 4, .bool p.u, .int .i64 5, .bool p.g, .int .i64 6, .bool p.a, .int .i64 7, .bool p.d] := rfl
theorem put_setI {p : Pt} (h : mayB p = true) : setI (setI (setI ((bsum (ptB p) 8 : Nat) : Int) 8 2 (p.rs : Int)) 10 44 (p.pp : Int)) 54 10 (p.hi : Int) = ((putN p : Nat) : Int) := by
  rw [← put_sets h]; unfold setI; rfl
theorem put_no (p : Pt) (hp : p.ok) (hm : mayB p = false) (w : World) :
    Calls Tryd.prog 9 #[.agg (ptC p)] w fun e w' => e = .returned (.tuple #[.int .u64 0, .int .i64 1]) ∧ Ext w w' := by
  have hmay := may_c p hp
  rw [hm] at hmay
  have HE := Lib.hid ((Ext.refl w).alloc (.cells (ptC p) 24))
  rw [ptC_eq] at HE hmay ⊢
  go_enter Tryd.func9, Tryd.ntmps9
  go_wp2_with fail; refine (hmay _).mono ?_; rintro e w1 ⟨rfl, hE⟩; replace HE := Lib.hid (HE.out.trans hE)
  clear hE hmay
  go_wp2
  go_ret2
  exact ⟨rfl, HE.out⟩
set_option maxRecDepth 100000 in
set_option maxHeartbeats 1000000 in
theorem put_yes (p : Pt) (hp : p.ok) (hm : mayB p = true) (w : World) :
    Calls Tryd.prog 9 #[.agg (ptC p)] w fun e w' => e = .returned (.tuple #[.int .u64 ((putN p : Nat) : Int), .int .i64 0]) ∧ Ext w w' := by
  have hmay := may_c p hp
  rw [hm] at hmay
  obtain ⟨ok0, ok1, ok2⟩ := hp
  have H := put_setI hm
  have hS : ((bsum (ptB p) 8 : Nat) : Int) < 18446744073709551616 := by have := bsum_lt (ptB p) 8; omega
  have hset := set8_c (ptB p)
  have HF := Lib.hid (flC_pt p)
  generalize ptB p = f at *
  generalize bsum f 8 = S at *
  have k1 := set_c (S : Int) 8 2 (p.rs : Int) (by omega) (by omega) (by omega) (by omega) (by decide) (by decide) (by decide) (by decide)
  have l1 := setI_lt (w := (S : Int)) 8 2 (p.rs : Int) (by omega) (by omega)
  have g1 := setI_ge (S : Int) 8 2 (p.rs : Int)
  generalize setI (S : Int) 8 2 (p.rs : Int) = x1 at H k1 l1 g1
  have k2 := set_c x1 10 44 (p.pp : Int) g1 l1 (by omega) (by omega) (by decide) (by decide) (by decide) (by decide)
  have l2 := setI_lt (w := x1) 10 44 (p.pp : Int) g1 l1
  have g2 := setI_ge x1 10 44 (p.pp : Int)
  generalize setI x1 10 44 (p.pp : Int) = x2 at H k2 l2 g2
  have k3 := set_c x2 54 10 (p.hi : Int) g2 l2 (by omega) (by omega) (by decide) (by decide) (by decide) (by decide)
  rw [H] at k3
  clear H g1 g2 l1 l2 hS ok0 ok1 ok2
  have HE := Lib.hid ((Ext.refl w).alloc (.cells (ptC p) 24))
  rw [ptC_eq] at HE hmay ⊢
  go_enter Tryd.func9, Tryd.ntmps9
  go_wp2_with fail
  refine (hmay _).mono ?_
  rintro e w1 ⟨rfl, hE⟩
  replace HE := Lib.hid (HE.out.trans hE)
  have hb := blk_one hE
  clear hE hmay
  obtain ⟨b0, b1, b2, b3, b4, b5, b6, b7, b8, b9, b10⟩ := hb.pt
  go_wp2_with fail
  refine (hset _ _ (by rw [HF.out]; exact Blk.new _ _ _)).mono ?_
  rintro e w2 ⟨rfl, hE⟩
  replace HE := Lib.hid ((HE.out.alloc _).trans hE)
  replace hb := (hb.alloc _).ext hE
  clear hE hset HF b0 b1 b2 b3 b4 b5 b6 b7 b8 b9 b10
  obtain ⟨-, -, -, -, -, -, -, -, b8, b9, b10⟩ := hb.pt
  clear hb
  go_wp2_with fail
  refine (k1 _).mono ?_
  rintro e w3 ⟨rfl, hw3⟩
  subst hw3
  clear k1 b8
  go_wp2_with fail
  refine (k2 _).mono ?_
  rintro e w3 ⟨rfl, hw3⟩
  subst hw3
  clear k2 b9
  go_wp2_with fail
  refine (k3 _).mono ?_
  rintro e w3 ⟨rfl, hw3⟩
  subst hw3
  clear k3 b10
  go_wp2
  go_ret2
  exact ⟨rfl, HE.out⟩
end Go.Proofs.YtdifjgppnfcnnaaDoor
