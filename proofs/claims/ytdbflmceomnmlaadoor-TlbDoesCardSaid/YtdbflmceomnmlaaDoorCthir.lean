/- Package set: first, Same, Right, Find. -/
import Derived.Test.YtdbflmceomnmlaaDoorMthir
import Derived.Test.YtdbflmceomnmlaaDoorCtwelb
import Derived.Test.YtdbflmceomnmlaaDoorCelev
namespace Go.Proofs.YtdbflmceomnmlaaDoor
open Go.ChangeShapes Go.WideShapes Go.ChangeAt Go.RowKit
set_option linter.unusedVariables false
set_option linter.unusedSimpArgs false
set_option maxRecDepth 10000

/-- both tables lie in their variables -/
def Lays (w : World) : Prop := Siz w ∧ Tous w
theorem Lays.ext {w w' : World} (h : Lays w) (hE : Ext w w') : Lays w' := ⟨h.1.ext hE, h.2.ext hE⟩
/-- an element of the array, by its place -/
theorem index_ws (s : Ws) {k : Nat} (hk : k < 4) (w : World) : (Instr.index 50 (.agg (wsC s)) (.int .i64 (k : Int))).run Tryd.prog w = .ok (.agg (enC (s.at k))) w := by
  have h := ws_part (w := w) s hk
  have hi := en_info (s.at k)
  rw [enC_size] at hi
  cases hq : Tryd.prog.info? 29 with
  | none => rw [hq] at hi; cases hi
  | some i =>
    rw [hq] at hi
    have hs : i.size = 11 := by simpa using hi
    simp [Instr.index, Tryd.underlying50, go_sem, run_sizeOf w hq, hs, h]
    have he := wsC_at s hk
    rw [enC_size] at he
    rw [if_pos hk, show Tryd.prog.cellsOf 29 = 11 by kernel_rfl, he]
theorem tup_ib {a b : Int} {x y : Bool} (h : a = b) (k : x = y) : Ending.returned (.tuple #[.int .i64 a, .bool x]) = .returned (.tuple #[.int .i64 b, .bool y]) := by rw [h, k]
set_option maxRecDepth 100000 in
set_option maxHeartbeats 1000000 in
/-- the least way of whose entry the closure says so -/
theorem first13_c (s : Ws) (F : Nat) (held : Array Value) (p : En → Bool) (w : World) (eg : ∀ args w, (callFunc F args).run Tryd.prog w = .ok (.enter F args) w)
    (hF : ∀ k, k < 4 → ∀ w', Ext w w' → Calls Tryd.prog F (#[.agg (enC (s.at k))] ++ held) w' fun e w'' => e = .returned (.bool (p (s.at k))) ∧ Ext w' w'') :
    Calls Tryd.prog 48 #[.agg (wsC s), .func (.func F) #[] held] w fun e w' => e = .returned (.tuple #[.int .i64 ((fiW p s : Nat) : Int), .bool (fbW p s)]) ∧ Ext w w' := by
  have hb := Blk.new w 50 (wsC s)
  have HE := Lib.hid ((Ext.refl w).alloc (.cells (wsC s) 50))
  have HF := Lib.hid hF
  clear hF
  go_enter Tryd.func48, Tryd.ntmps48
  go_wp2_with (refine wpList_load_blk (by rfl) 50 _ rfl rfl (by with_reducible assumption) Tryd.underlying50 rfl (by kernel_rfl) ?_)
  go_loopw [9] (fun i wr => ∃ k : Nat, k ≤ 4 ∧ i = .int .i64 k ∧ Hid (∀ j, j < k → p (s.at j) = false) ∧ Ext w wr) (fun i _ => (4 - intOf i).toNat)
  case atStart => exact ⟨0, by omega, rfl, Lib.hid (fun j hj => absurd hj (by omega)), HE.out⟩
  case round =>
    clear hb HE
    obtain ⟨k, hk, rfl, I, hE⟩ := hrel
    have HE := Lib.hid hE
    clear hE
    by_cases hlt : k < 4
    · have hd : decide ((k : Int) < 4) = true := by simp; omega
      have hix := index_ws s hlt
      have hcall := HF.out k hlt
      have HK := fi_hit (p := p) (s := s) hlt I.out
      have IK : p (s.at k) = false → Hid (∀ j, j < k + 1 → p (s.at j) = false) := fun h => Lib.hid fun j hj => by
        rcases Nat.lt_or_ge j k with h1 | h1
        · exact I.out j h1
        · obtain rfl : j = k := by omega
          exact h
      clear I hk
      generalize s.at k = e at hix hcall HK IK
      have h1 := Blk.new wr 29 (enC e)
      have HE2 := Lib.hid (HE.out.alloc (.cells (enC e) 29))
      have hcl := hcall _ HE2.out
      clear HE hcall
      generalize p e = B at hcl HK IK
      go_wp2_with (first | (refine wpList_store_new rfl 29 _ _ rfl (enC _) _ _ rfl rfl (en_info _) (by simp [enC_size]) (enC_one _) ?_) | (refine wpList_load_blk (by rfl) 29 _ rfl rfl h1 Tryd.underlying29 rfl (by kernel_rfl) ?_))
      refine hcl.mono ?_
      rintro e1 w' ⟨rfl, hE⟩
      replace HE2 := Lib.hid (HE2.out.trans hE)
      clear h1 hcl hE
      cases B
      · have I2 := IK rfl
        clear IK HK hix
        go_wp2
        go_roundw
        case rel => exact ⟨k + 1, by omega, by go_num, I2, HE2.out⟩
        case measure => simp [intOf]; omega
      · obtain ⟨K1, K2⟩ := HK rfl
        have HK1 := Lib.hid K1
        have HK2 := Lib.hid K2
        clear IK HK hix K1 K2
        go_wp2
        go_ret2
        exact ⟨tup_ib (by rw [HK1.out]) HK2.out.symm, HE2.out⟩
    · obtain rfl : k = 4 := by omega
      have hd : decide ((4 : Int) < 4) = false := by decide
      have HN := fi_none (p := p) (s := s) I.out
      go_wp2
      go_ret2
      exact ⟨tup_ib (by rw [HN.1]; first | rfl | simp) HN.2.symm, HE.out⟩

theorem sameE_eq (e f : En) : sameE e f = (e.v && (f.v && ((e.l == f.l) && ((e.vp == f.vp) && (e.g || (f.g || (e.n == f.n))))))) := by unfold sameE; rfl
theorem nat_beq (a b : Nat) : ((a : Int) == (b : Int)) = (a == b) := by rw [Bool.eq_iff_iff, beq_iff_eq, beq_iff_eq]; omega
set_option maxHeartbeats 2000000 in
theorem same13_c (e f : En) (w : World) :
    Calls Tryd.prog 63 #[.agg (enC e), .agg (enC f)] w fun r w' => r = .returned (.bool (sameE e f)) ∧ Ext w w' := by
  obtain ⟨h1, h2⟩ := blk_two (Ext.refl ((w.alloc (.cells (enC e) 29)).alloc (.cells (enC f) 29)))
  have HE := Lib.hid (((Ext.refl w).alloc (.cells (enC e) 29)).alloc (.cells (enC f) 29))
  have hq := sameE_eq e f
  have x0 := h1.en_v
  have x1 := h1.en_n
  have x2 := h1.en_g
  have x3 := h1.en_l
  have x4 := h1.en_vp
  have y0 := h2.en_v
  have y1 := h2.en_n
  have y2 := h2.en_g
  have y3 := h2.en_l
  have y4 := h2.en_vp
  have b1 := nat_beq e.n f.n
  have b4 := nat_beq e.vp f.vp
  rw [hq]
  clear hq h1 h2
  generalize e.v = v1 at *
  generalize f.v = v2 at *
  generalize e.g = g1 at *
  generalize f.g = g2 at *
  generalize (e.n == f.n) = t1 at *
  generalize (e.vp == f.vp) = t4 at *
  obtain ⟨t3, b3⟩ : ∃ t, (e.l == f.l) = t := ⟨_, rfl⟩
  rw [b3]
  generalize e.n = n1 at *
  generalize f.n = n2 at *
  generalize e.l = l1 at *
  generalize f.l = l2 at *
  generalize e.vp = p1 at *
  generalize f.vp = p2 at *
  cases g1 <;> cases g2
  all_goals
    cases v1
    · skip
      go_enter Tryd.func63, Tryd.ntmps63
      go_wp2
      go_ret
      refine ⟨?_, HE.out⟩
      simp
    cases v2
    · skip
      go_enter Tryd.func63, Tryd.ntmps63
      go_wp2
      go_ret
      refine ⟨?_, HE.out⟩
      simp
    cases t3
    · skip
      go_enter Tryd.func63, Tryd.ntmps63
      go_wp2
      go_ret
      refine ⟨?_, HE.out⟩
      simp
    cases t4
    · skip
      go_enter Tryd.func63, Tryd.ntmps63
      go_wp2
      go_ret
      refine ⟨?_, HE.out⟩
      simp
    · skip
      go_enter Tryd.func63, Tryd.ntmps63
      go_wp2
      go_ret
      refine ⟨?_, HE.out⟩
      simp
theorem right1_c (e : En) (he : e.ok) (w : World) (hT : Siz w) :
    Calls Tryd.prog 49 #[.agg (enC e)] w fun r w' => r = .returned (.bool (!mayE e)) ∧ Ext w w' := by
  have h1 := Blk.new w 29 (enC e)
  have HE := Lib.hid ((Ext.refl w).alloc (.cells (enC e) 29))
  have hm := fun w h => may12_c e he w h
  generalize mayE e = B at hm ⊢
  go_enter Tryd.func49, Tryd.ntmps49
  go_wp2_with ((refine wpList_load_blk (by rfl) 29 _ rfl rfl h1 Tryd.underlying29 rfl (by kernel_rfl) ?_)); refine (hm _ (hT.ext HE.out)).mono ?_; rintro e w' ⟨rfl, hE⟩; (try replace hm := hm.ext hE); (try replace h1 := h1.ext hE); (try replace HE := Lib.hid (HE.out.trans hE))
  clear hE hm
  go_wp2
  go_ret
  exact ⟨rfl, HE.out⟩
theorem right13_c (s : St) (hs : s.ok) (w : World) (hT : Lays w) :
    Calls Tryd.prog 29 #[.agg (stC s)] w fun r w' => r = .returned (.bool (rightS s)) ∧ Ext w w' := by
  have h1 := Blk.new w 52 (stC s)
  have HE := Lib.hid ((Ext.refl w).alloc (.cells (stC s) 52))
  have HT := Lib.hid (hT.1.ext HE.out)
  clear hT
  have hf := fun w (h : Siz w) => first13_c s.ws 49 #[] (fun e => !mayE e) w (fun args w => run_callFunc Tryd.func49 (by kernel_rfl) (by kernel_rfl) args w)
    (fun k hk w' hE => right1_c (s.ws.at k) (at_ok hs.1 hk) w' (h.ext hE))
  have hr := right_fb s
  generalize fiW (fun e => !mayE e) s.ws = i at hf
  generalize fbW (fun e => !mayE e) s.ws = B at hf hr
  have hi := fun w => is11_c s.t w
  obtain ⟨d, hd⟩ : ∃ d, decide ((s.t : Int) < 8) = d := ⟨_, rfl⟩
  rw [hd] at hi hr
  clear hd
  rw [← hr]
  clear hr
  have x44 := h1.st_t
  cases d
  all_goals
    go_enter Tryd.func29, Tryd.ntmps29
    go_wp2_with ((refine wpList_load_part (by rfl) 50 _ rfl rfl h1 (stC_ws s) Tryd.underlying50 rfl (ws_info _) ?_)); refine (hf _ HT.out).mono ?_; rintro e w' ⟨rfl, hE⟩; (try replace hd := hd.ext hE); (try replace h1 := h1.ext hE); (try replace HT := Lib.hid (HT.out.ext hE)); (try replace HE := Lib.hid (HE.out.trans hE))
    clear hE hf
    replace x44 := h1.st_t
    go_wp2_with fail
    refine (hi _).mono ?_
    rintro e w2 ⟨rfl, rfl⟩
    go_wp2
    go_ret
    exact ⟨by simp, HE.out⟩
end Go.Proofs.YtdbflmceomnmlaaDoor
