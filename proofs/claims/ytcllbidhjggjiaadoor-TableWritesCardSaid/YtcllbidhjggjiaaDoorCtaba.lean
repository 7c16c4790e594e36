/- Package table: place, leads, entries: what the iterator of a table's entries hands out. -/
import Derived.Test.YtcllbidhjggjiaaDoorLaw19a
import Derived.Test.YtcllbidhjggjiaaDoorGite
import Derived.Test.YtcllbidhjggjiaaDoorMtabe
import Derived.Test.YtcllbidhjggjiaaDoorGmem
import Derived.Test.YtcllbidhjggjiaaDoorGpte
import Derived.Test.YtcllbidhjggjiaaDoorGfive
import Derived.Shelf.Abstract
namespace Go.Proofs.YtcllbidhjggjiaaDoor
open Go.ChangeShapes Go.WideShapes Go.ChangeAt Go.RowKit
set_option linter.unusedVariables false
set_option linter.unusedSimpArgs false
set_option maxRecDepth 10000
attribute [local go_sem] Oper.semAt_some

theorem Pt.ok_tE {S : Nat} {L : List (Nat × Nat)} (h : RL (S / 8) L) (t i : Nat) : (tE L t i).ok := by
  have hv := wordL_lt h (512 * t + i)
  unfold tE getP Pt.ok
  refine ⟨?_, ?_, ?_⟩ <;> simp <;> omega
/-- where an entry lies -/
theorem tplace_c {f i : Nat} (hf : f ≤ 268435600) (hi : i < 512) (w : World) :
    Calls Tryd.prog 57 #[.int .u64 (f : Int), .int .i64 (i : Int)] w fun e w' => e = .returned (.int .u64 ((8 * (512 * f + i) : Nat) : Int)) ∧ w = w' := by
  have hs1 : IntKind.u64.wrap ((f : Int) * 4096) = (f : Int) * 4096 := by rw [IntKind.wrap_u64]; omega
  have hs0 : IntKind.u64.wrap (i : Int) = (i : Int) := by rw [IntKind.wrap_u64]; omega
  have hs2 : IntKind.u64.wrap ((i : Int) * 8) = (i : Int) * 8 := by rw [IntKind.wrap_u64]; omega
  have hs3 : IntKind.u64.wrap ((f : Int) * 4096 + (i : Int) * 8) = ((8 * (512 * f + i) : Nat) : Int) := by rw [IntKind.wrap_u64]; omega
  go_enter Tryd.func57, Tryd.ntmps57
  go_wp2
  go_ret
  exact ⟨rfl, rfl⟩
attribute [local irreducible] World.setRow World.alloc Blk
set_option maxHeartbeats 1000000 in
theorem tleads_c (p : Pt) (hp : p.ok) (n : Nat) (hn : n ≤ 2) (w : World) (hT : Siz w) :
    Calls Tryd.prog 59 #[.agg (ptC p), .int .i64 (n : Int)] w fun e w' => e = .returned (.bool (linkB p && !badB p (n : Int))) ∧ Ext w w' := by
  have h1 := Blk.new w 53 (ptC p)
  have HE := Lib.hid ((Ext.refl w).alloc (.cells (ptC p) 53))
  have cl := fun W => link_c p W
  have cb := fun W (k : Siz W) => bad_c p hp (n : Int) (by omega) (by omega) W k
  have hlow : n = 0 → badB p (n : Int) = false → linkB p = false := fun e h => by subst e; exact not_low h
  go_enter Tryd.func59, Tryd.ntmps59
  cases hl : linkB p
  · rw [hl] at cl
    clear cb hl hlow
    go_wp2_with (refine wpList_load_blk (by rfl) 53 _ rfl rfl h1 Tryd.underlying53 rfl (by kernel_rfl) ?_)
    refine (cl _).mono ?_
    rintro e w1 ⟨rfl, hE⟩
    replace HE := Lib.hid (HE.out.trans hE)
    clear hE cl h1
    go_wp2
    go_ret
    exact ⟨rfl, HE.out⟩
  · rw [hl] at cl hlow
    cases hb : badB p (n : Int)
    · rw [hb] at cb hlow
      have hn0 : n ≠ 0 := fun e => by have := hlow e rfl; cases this
      have d1 : decide (0 < n) = true := by simp; omega
      have d2 : decide (n ≤ 2) = true := by simp; omega
      have d3 : decide ((0 : Int) < (n : Int)) = true := by simp; omega
      have d4 : decide ((n : Int) ≤ 2) = true := by simp; omega
      clear hl hb hlow hn0
      go_wp2_with (refine wpList_load_blk (by rfl) 53 _ rfl rfl h1 Tryd.underlying53 rfl (by kernel_rfl) ?_)
      refine (cl _).mono ?_
      rintro e w1 ⟨rfl, hE⟩
      (try replace hb := hb.ext hE); (try replace h1 := h1.ext hE); (try replace HE := Lib.hid (HE.out.trans hE)); (try replace r0 := r0.ext hE); (try replace r1 := r1.ext hE); (try replace r2 := r2.ext hE); (try replace r3 := r3.ext hE); (try replace r4 := r4.ext hE); (try replace r5 := r5.ext hE); (try replace r6 := r6.ext hE)
      clear hE cl
      go_wp2_with (refine wpList_load_blk (by rfl) 53 _ rfl rfl h1 Tryd.underlying53 rfl (by kernel_rfl) ?_)
      refine (cb _ (hT.ext HE.out)).mono ?_
      rintro e w2 ⟨rfl, hE⟩
      replace HE := Lib.hid (HE.out.trans hE)
      clear hE cb h1
      go_wp2
      go_ret
      exact ⟨rfl, HE.out⟩
    · rw [hb] at cb
      clear hl hb hlow
      go_wp2_with (refine wpList_load_blk (by rfl) 53 _ rfl rfl h1 Tryd.underlying53 rfl (by kernel_rfl) ?_)
      refine (cl _).mono ?_
      rintro e w1 ⟨rfl, hE⟩
      (try replace hb := hb.ext hE); (try replace h1 := h1.ext hE); (try replace HE := Lib.hid (HE.out.trans hE)); (try replace r0 := r0.ext hE); (try replace r1 := r1.ext hE); (try replace r2 := r2.ext hE); (try replace r3 := r3.ext hE); (try replace r4 := r4.ext hE); (try replace r5 := r5.ext hE); (try replace r6 := r6.ext hE)
      clear hE cl
      go_wp2_with (refine wpList_load_blk (by rfl) 53 _ rfl rfl h1 Tryd.underlying53 rfl (by kernel_rfl) ?_)
      refine (cb _ (hT.ext HE.out)).mono ?_
      rintro e w2 ⟨rfl, hE⟩
      replace HE := Lib.hid (HE.out.trans hE)
      clear hE cb h1
      go_wp2
      go_ret
      exact ⟨rfl, HE.out⟩
/-- the maker of the iterator -/
theorem tent_c (S : Nat) (B : Option Addr) (l d t : Nat) (w : World) :
    Calls Tryd.prog 46 #[.agg #[.int .u64 (S : Int), .slice B l d], .int .u64 (t : Int)] w fun e w' => e = .returned (.func (.func 73) #[] #[.pointer (some ⟨w.heap.size, 0, none⟩), .pointer (some ⟨w.heap.size + 1, 0, none⟩)]) ∧ w' = (w.alloc (.cells #[.int .u64 (S : Int), .slice B l d] 25)).alloc (.cells #[.int .u64 (t : Int)] 22) := by
  go_enter Tryd.func46, Tryd.ntmps46
  go_wp2
  go_ret
  exact ⟨rfl, rfl⟩
/-- an entry handed out -/
def encE (x : Nat × Pt) : Array Value := #[.int .i64 (x.1 : Int), .agg (ptC x.2)]
/-- what the iterator wants of a world -/
def EnPre (S : Nat) (B : Option Addr) (L : List (Nat × Nat)) (d t g1 g2 : Nat) (ws W : World) : Prop := Ext ws W ∧ Blk W g1 25 #[.int .u64 (S : Int), .slice B L.length d] ∧ Blk W g2 22 #[.int .u64 (t : Int)]
theorem EnPre.ext {S : Nat} {B : Option Addr} {L : List (Nat × Nat)} {d t g1 g2 : Nat} {ws W W' : World} (h : EnPre S B L d t g1 g2 ws W) (hE : Ext W W') : EnPre S B L d t g1 g2 ws W' := ⟨h.1.trans hE, h.2.1.ext hE, h.2.2.ext hE⟩
set_option maxHeartbeats 2000000 in
/-- **the iterator of a table's entries hands out those whose words are not 0, by rising indexes** -/
theorem tent_gen {S : Nat} {B : Option Addr} {L : List (Nat × Nat)} {d t g1 g2 : Nat} {ws : World} (hM : Mem ws S B L d) (ht : t < S / 4096) :
    Gen Tryd.prog 73 #[.pointer (some ⟨g1, 0, none⟩), .pointer (some ⟨g2, 0, none⟩)] encE (EnPre S B L d t g1 g2 ws) ws.heap.size [g1, g2] (entP L t 512) := by
  rintro l Pv J Jx O W ⟨hw, h1, h2⟩ hn hPv hbx hO hJ hJx hY h0
  obtain ⟨q1, o1⟩ := hbx g1 (by simp)
  obtain ⟨q2, o2⟩ := hbx g2 (by simp)
  have hso := hM.ok.le
  have hrl := hM.rl
  refine callsIn_of_wp Tryd.func73 rfl trivial ?_ rfl
  simp only [Tryd.ntmps73, List.size_toArray, List.length_cons, List.length_nil, Nat.reduceAdd, Nat.reduceSub, Array.replicate_succ, Array.replicate_zero, List.push_toArray, List.append_toArray, List.nil_append, List.cons_append]
  gi_wp2
  gi_loopw [6] (fun p wr => ∃ (k : Nat) (O1 : Option Nat), p = .int .i64 (k : Int) ∧ k ≤ 512 ∧ J (entP L t k) O1 wr ∧ EnPre S B L d t g1 g2 ws wr ∧ O1 ≠ some g1 ∧ O1 ≠ some g2) (fun p _ => (512 - intOf p).toNat)
  case atStart => exact ⟨0, O, rfl, by omega, by rw [entP_0]; exact h0, ⟨hw, h1, h2⟩, o1, o2⟩
  case round =>
    clear h1 h2 hw h0 o1 o2
    obtain ⟨k, O1, rfl, hle, hj, ⟨hw, h1, h2⟩, o1, o2⟩ := hrel
    by_cases hlt : k < 512
    case neg =>
      obtain rfl : k = 512 := by omega
      have hj2 : Hid (∃ O', J (entP L t 512) O' wr) := Lib.hid ⟨_, hj⟩
      clear hj
      gi_wp2
      go_end0
      exact ⟨⟨_, rfl⟩, .inl hj2.out⟩
    have dk : decide ((k : Int) < 512) = true := by simp; omega
    have cpl := fun W => tplace_c (f := t) (i := k) (by omega) hlt W
    have cw := fun W (m : Mem W S B L d) => word_x m (a := 8 * (512 * t + k)) (by omega)
    rw [show 8 * (512 * t + k) / 8 = 512 * t + k by omega] at cw
    have cg := fun W => get_pte (wordL L (512 * t + k)) (wordL_lt hrl _) W
    have e1 : tE L t k = getP (wordL L (512 * t + k)) := rfl
    rw [← e1] at cg
    clear e1
    have hY2 : wordL L (512 * t + k) ≠ 0 → ∀ W1, J (entP L t k) O1 W1 → YieldAt Fence.wide 10 Tryd.prog l (encE (k, tE L t k)) W1 fun e W' => ∃ O', Rnd Pv O1 O' W1 W' ∧ ((e = .returned (.bool true) ∧ J (entP L t (k + 1)) O' W') ∨ (e = .returned (.bool false) ∧ ∃ pre, pre <+: entP L t 512 ∧ Jx pre O' W')) := fun hne W1 hj1 => by
      obtain ⟨r, e⟩ := entP_pre L t (512 - (k + 1)) (k + 1)
      rw [show k + 1 + (512 - (k + 1)) = 512 by omega, entP_yes hne, List.append_assoc, List.singleton_append] at e
      obtain ⟨fn, tmps, assign, body, hy, hR⟩ := hY _ _ _ O1 W1 e hj1
      refine ⟨fn, tmps, assign, body, hy, hR.mono ?_⟩
      rintro e W' ⟨O', hr, ⟨rfl, h⟩ | ⟨rfl, h⟩⟩
      · exact ⟨O', hr, .inl ⟨rfl, by rw [entP_yes hne]; exact h⟩⟩
      · exact ⟨O', hr, .inr ⟨rfl, _, ⟨r, by rw [List.append_assoc, List.singleton_append, ← e]⟩, h⟩⟩
    have hno : wordL L (512 * t + k) = 0 → entP L t (k + 1) = entP L t k := fun h => entP_no h
    have x2 : wr.cell? ⟨g2, 0, none⟩ = some (.int .u64 (t : Int)) := h2.cell 0
    generalize tE L t k = p at *
    generalize wordL L (512 * t + k) = v at *
    generalize 8 * (512 * t + k) = A8 at *
    obtain ⟨E1, hE1⟩ : ∃ E1, entP L t (k + 1) = E1 := ⟨_, rfl⟩
    rw [hE1] at hY2 hno
    have HE1 := Lib.hid hE1
    clear hE1
    clear hY
    gi_wp2
    refine wpIn_wide.2 ?_
    have hjd := hJ _ _ _ _ hj (Stp.ext (Ext.refl wr).drew)
    have hwd := hw.drew
    have h1d := h1.drew
    have h2d := h2.drew
    refine wp_region_seq [(0, false), (1, false), (2, false), (3, true), (4, true), (5, false)] Ext (by kernel_rfl) (by kernel_rfl) Ext.refl (fun _ _ _ => Ext.trans) ?_; simp only [List.map, nth_z, nth_s]
    clear hj hw h1 h2 x2
    generalize wr.drew = w0 at *
    refine seq_load rfl rfl (fun x hx => Blk.ext (h1d) hx) rfl Tryd.underlying25 (by kernel_rfl) (by rfl) ?_; intro K hK; simp only [Act.put, List.setIfInBounds_toArray, List.set_cons_zero, List.set_cons_succ]; refine hK _ ?_; clear hK K
    refine seq_value (.int .u64 (t : Int)) (by rfl) (fun x hx => by have hq := ext_cell hx ((h2d.cell 0)); simp [go_sem, execOp, Act.eval, hq]) ?_; intro K hK; simp only [Act.put, List.setIfInBounds_toArray, List.set_cons_zero, List.set_cons_succ]; refine hK _ ?_; clear hK K
    (repeat (first | (refine seq_skip (by rfl) ?_; intro K hK; simp only [Act.put, List.setIfInBounds_toArray, List.set_cons_zero, List.set_cons_succ]; refine hK _ ?_; clear hK K) | (refine seq_skipc (by rfl) ?_; intro K hK; simp only [Act.put, List.setIfInBounds_toArray, List.set_cons_zero, List.set_cons_succ]; refine hK _ ?_; clear hK K) | (refine seq_read (by rfl) (by rfl) ?_; intro K hK; go_big_quiet_op; first | go_big_quiet_on | (refine ⟨_, fun _ _ => rfl, ?_⟩; go_big_quiet_on))))
    refine seq_call (calls_ext (cpl _)) rfl Tryd.func57 (by kernel_rfl) (by kernel_rfl) (by rfl) (by rfl) ?_; intro K hK; rintro e w' ⟨rfl, hE⟩; refine ⟨_, rfl, hE, ?_⟩; simp only [Act.put, List.setIfInBounds_toArray, List.set_cons_zero, List.set_cons_succ]; refine hK _ _ ?_; clear hK K
    replace hjd := hJ _ _ _ _ hjd (Stp.ext hE)
    replace hwd := hwd.trans hE
    replace h1d := h1d.ext hE
    replace h2d := h2d.ext hE
    clear hE
    refine seq_call (cw _ (hM.ext hwd)) rfl Tryd.func56 (by kernel_rfl) (by kernel_rfl) (by rfl) (by rfl) ?_; intro K hK; rintro e w' ⟨rfl, hE⟩; refine ⟨_, rfl, hE, ?_⟩; simp only [Act.put, List.setIfInBounds_toArray, List.set_cons_zero, List.set_cons_succ]; refine hK _ _ ?_; clear hK K
    replace hjd := hJ _ _ _ _ hjd (Stp.ext hE)
    replace hwd := hwd.trans hE
    replace h1d := h1d.ext hE
    replace h2d := h2d.ext hE
    clear hE
    (repeat (first | (refine seq_skip (by rfl) ?_; intro K hK; simp only [Act.put, List.setIfInBounds_toArray, List.set_cons_zero, List.set_cons_succ]; refine hK _ ?_; clear hK K) | (refine seq_skipc (by rfl) ?_; intro K hK; simp only [Act.put, List.setIfInBounds_toArray, List.set_cons_zero, List.set_cons_succ]; refine hK _ ?_; clear hK K) | (refine seq_read (by rfl) (by rfl) ?_; intro K hK; go_big_quiet_op; first | go_big_quiet_on | (refine ⟨_, fun _ _ => rfl, ?_⟩; go_big_quiet_on))))
    refine seq_done ?_
    clear cpl cw
    by_cases hv : v = 0
    · have hj2 := Lib.hid (show J E1 O1 _ by rw [hno hv]; exact hjd)
      subst hv
      clear hY2 hno hjd cg
      gi_wp2
      refine ⟨trivial, ?_⟩
      gi_wp2
      refine ⟨fun _ h => (by cases h), ?_⟩
      gi_wp2
      go_roundw
      case rel => exact ⟨k + 1, O1, by go_num, by omega, by rw [HE1.out]; exact hj2.out, ⟨hwd, h1d, h2d⟩, o1, o2⟩
      case measure => simp [intOf]; omega
    · have dv : ((v : Int) != 0) = true := by simpa using hv
      have dv2 : (v == 0) = false := by simpa using hv
      have hY3 := hY2 hv
      clear hY2 hno hv
      gi_wp2_with (refine ⟨trivial, ?_⟩; gi_at_call 55; refine (callsIn_wide.2 (cg _)).mono ?_; rintro e W4 ⟨rfl, hE⟩; replace hjd := hJ _ _ _ _ hjd (Stp.ext hE); obtain ⟨fn, tmps, assign, body, hy, hR⟩ := hY3 W4 hjd; simp only [encE] at hy; replace hwd := hwd.trans hE; replace h1d := h1d.ext hE; replace h2d := h2d.ext hE; clear hE cg hY3)
      have hbo := hO _ _ _ hjd
      refine hR.mono ?_
      rintro e W5 ⟨O2, hr, ⟨rfl, hJ5⟩ | ⟨rfl, hJ5⟩⟩
      · have hJ6 := Lib.hid hJ5
        clear hJ5 hR hy hjd
        gi_wp2
        go_roundw
        case rel => exact ⟨k + 1, O2, by go_num, by omega, by rw [HE1.out]; exact hJ6.out, ⟨Below.trans hwd (hr.below hwd.size (fun k h => (hPv k h).1) fun k h => (hbo k h).1), hr.blk h1d q1 o1, hr.blk h2d q2 o2⟩, hr.off h1d.lt o1, hr.off h2d.lt o2⟩
        case measure => simp [intOf]; omega
      · obtain ⟨pre, hp, hx⟩ := hJ5
        have H : Hid (∃ pre O', pre <+: entP L t 512 ∧ Jx pre O' W5) := Lib.hid ⟨pre, _, hp, hx⟩
        clear hp hx hR hy hjd
        gi_wp2
        refine bodyPost_ret (results_none rfl _ _ _) rfl ?_
        exact ⟨⟨_, rfl⟩, .inr H.out⟩
end Go.Proofs.YtcllbidhjggjiaaDoor
