/- Package table: place, leads, entries: what the iterator of a table's entries hands out. -/
import Derived.Test.YticbjiddbjgikaaDoorLaw19a
import Derived.Test.YticbjiddbjgikaaDoorGite
import Derived.Test.YticbjiddbjgikaaDoorMtabe
import Derived.Test.YticbjiddbjgikaaDoorGmem
import Derived.Test.YticbjiddbjgikaaDoorGpte
import Derived.Test.YticbjiddbjgikaaDoorGfive
import Derived.Shelf.Abstract
import Derived.Test.YticbjiddbjgikaaDoorGrtac
namespace Go.Proofs.YticbjiddbjgikaaDoor
open Go.ChangeShapes Go.WideShapes Go.ChangeAt Go.RowKit
set_option linter.unusedVariables false
set_option linter.unusedSimpArgs false
set_option maxRecDepth 10000
attribute [local go_sem] Oper.semAt_some

theorem Pt.ok_tE {S : Nat} {L : List (Nat × Nat)} (h : RL (S / 8) L) (t i : Nat) : (tE L t i).ok := by
  have hv := wordL_lt h (512 * t + i)
  unfold tE getP Pt.ok
  refine ⟨?_, ?_, ?_⟩ <;> simp <;> omega
/-- where an entry lies -/
theorem tplace_c {f i : Nat} (hf : f ≤ 268435600) (hi : i < 512) (w : World) :
    Calls Tryd.prog 58 #[.int .u64 (f : Int), .int .i64 (i : Int)] w fun e w' => e = .returned (.int .u64 ((8 * (512 * f + i) : Nat) : Int)) ∧ w = w' := by
  have hs1 : IntKind.u64.wrap ((f : Int) * 4096) = (f : Int) * 4096 := by rw [IntKind.wrap_u64]; omega
  have hs0 : IntKind.u64.wrap (i : Int) = (i : Int) := by rw [IntKind.wrap_u64]; omega
  have hs2 : IntKind.u64.wrap ((i : Int) * 8) = (i : Int) * 8 := by rw [IntKind.wrap_u64]; omega
  have hs3 : IntKind.u64.wrap ((f : Int) * 4096 + (i : Int) * 8) = ((8 * (512 * f + i) : Nat) : Int) := by rw [IntKind.wrap_u64]; omega
  go_enter Tryd.func58, Tryd.ntmps58
  go_wp2
  go_ret
  exact ⟨rfl, rfl⟩
attribute [local irreducible] World.setRow World.alloc Blk
set_option maxHeartbeats 1000000 in
theorem tleads_c (p : Pt) (hp : p.ok) (n : Nat) (hn : n ≤ 2) (w : World) (hT : Siz w) :
    Calls Tryd.prog 60 #[.agg (ptC p), .int .i64 (n : Int)] w fun e w' => e = .returned (.bool (linkB p && !badB p (n : Int))) ∧ Ext w w' := by
  have h1 := Blk.new w 32 (ptC p)
  have HE := Lib.hid ((Ext.refl w).alloc (.cells (ptC p) 32))
  have cl := fun W => link_c p W
  have cb := fun W (k : Siz W) => bad_c p hp (n : Int) (by omega) (by omega) W k
  have hlow : n = 0 → badB p (n : Int) = false → linkB p = false := fun e h => by subst e; exact not_low h
  go_enter Tryd.func60, Tryd.ntmps60
  cases hl : linkB p
  · rw [hl] at cl
    clear cb hl hlow
    go_wp2_with (refine wpList_load_blk (by rfl) 32 _ rfl rfl h1 Tryd.underlying32 rfl (by kernel_rfl) ?_)
    refine (cl _).mono ?_
    rintro e w1 ⟨rfl, hE⟩
    replace HE := Lib.hid (HE.out.trans hE)
    clear hE cl h1
    go_wp2
    go_ret
    exact ⟨rfl, HE.out⟩
  · rw [hl] at cl hlow
    cases hb : badB p (n : Int)
    · rw [hb] at cb hlow
      have hn0 : n ≠ 0 := fun e => by have := hlow e rfl; cases this
      have d1 : decide (0 < n) = true := by simp; omega
      have d2 : decide (n ≤ 2) = true := by simp; omega
      have d3 : decide ((0 : Int) < (n : Int)) = true := by simp; omega
      have d4 : decide ((n : Int) ≤ 2) = true := by simp; omega
      clear hl hb hlow hn0
      go_wp2_with (refine wpList_load_blk (by rfl) 32 _ rfl rfl h1 Tryd.underlying32 rfl (by kernel_rfl) ?_)
      refine (cl _).mono ?_
      rintro e w1 ⟨rfl, hE⟩
      (try replace hb := hb.ext hE); (try replace h1 := h1.ext hE); (try replace HE := Lib.hid (HE.out.trans hE)); (try replace r0 := r0.ext hE); (try replace r1 := r1.ext hE); (try replace r2 := r2.ext hE); (try replace r3 := r3.ext hE); (try replace r4 := r4.ext hE); (try replace r5 := r5.ext hE); (try replace r6 := r6.ext hE)
      clear hE cl
      go_wp2_with (refine wpList_load_blk (by rfl) 32 _ rfl rfl h1 Tryd.underlying32 rfl (by kernel_rfl) ?_)
      refine (cb _ (hT.ext HE.out)).mono ?_
      rintro e w2 ⟨rfl, hE⟩
      replace HE := Lib.hid (HE.out.trans hE)
      clear hE cb h1
      go_wp2
      go_ret
      exact ⟨rfl, HE.out⟩
    · rw [hb] at cb
      clear hl hb hlow
      go_wp2_with (refine wpList_load_blk (by rfl) 32 _ rfl rfl h1 Tryd.underlying32 rfl (by kernel_rfl) ?_)
      refine (cl _).mono ?_
      rintro e w1 ⟨rfl, hE⟩
      (try replace hb := hb.ext hE); (try replace h1 := h1.ext hE); (try replace HE := Lib.hid (HE.out.trans hE)); (try replace r0 := r0.ext hE); (try replace r1 := r1.ext hE); (try replace r2 := r2.ext hE); (try replace r3 := r3.ext hE); (try replace r4 := r4.ext hE); (try replace r5 := r5.ext hE); (try replace r6 := r6.ext hE)
      clear hE cl
      go_wp2_with (refine wpList_load_blk (by rfl) 32 _ rfl rfl h1 Tryd.underlying32 rfl (by kernel_rfl) ?_)
      refine (cb _ (hT.ext HE.out)).mono ?_
      rintro e w2 ⟨rfl, hE⟩
      replace HE := Lib.hid (HE.out.trans hE)
      clear hE cb h1
      go_wp2
      go_ret
      exact ⟨rfl, HE.out⟩
/-- the maker of the iterator -/
theorem tent_c (S : Nat) (B : Option Addr) (l d t : Nat) (w : World) :
    Calls Tryd.prog 89 #[.agg #[.int .u64 (S : Int), .slice B l d], .int .u64 (t : Int)] w fun e w' => e = .returned (.func (.func 104) #[] #[.pointer (some ⟨w.heap.size, 0, none⟩), .pointer (some ⟨w.heap.size + 1, 0, none⟩)]) ∧ w' = (w.alloc (.cells #[.int .u64 (S : Int), .slice B l d] 25)).alloc (.cells #[.int .u64 (t : Int)] 22) := by
  go_enter Tryd.func89, Tryd.ntmps89
  go_wp2
  go_ret
  exact ⟨rfl, rfl⟩
/-- an entry handed out -/
def encE (x : Nat × Pt) : Array Value := #[.int .i64 (x.1 : Int), .agg (ptC x.2)]
/-- what the iterator wants of a world -/
def EnPre (S : Nat) (B : Option Addr) (L : List (Nat × Nat)) (d t g1 g2 : Nat) (ws W : World) : Prop := Ext ws W ∧ Blk W g1 25 #[.int .u64 (S : Int), .slice B L.length d] ∧ Blk W g2 22 #[.int .u64 (t : Int)]
theorem EnPre.ext {S : Nat} {B : Option Addr} {L : List (Nat × Nat)} {d t g1 g2 : Nat} {ws W W' : World} (h : EnPre S B L d t g1 g2 ws W) (hE : Ext W W') : EnPre S B L d t g1 g2 ws W' := ⟨h.1.trans hE, h.2.1.ext hE, h.2.2.ext hE⟩
set_option maxHeartbeats 2000000 in
/-- **the iterator of a table's entries hands out those whose words are not 0, by rising indexes** -/
theorem tent_gen {S : Nat} {B : Option Addr} {L : List (Nat × Nat)} {d t g1 g2 : Nat} {ws : World} (hM : Mem ws S B L d) (ht : t < S / 4096) :
    Gen Tryd.prog 104 #[.pointer (some ⟨g1, 0, none⟩), .pointer (some ⟨g2, 0, none⟩)] encE (EnPre S B L d t g1 g2 ws) ws.heap.size [g1, g2] (entP L t 512) := by
  rintro l Pv J Jx O W ⟨hw, h1, h2⟩ hn hPv hbx hO hJ hJx hY h0
  obtain ⟨q1, o1⟩ := hbx g1 (by simp)
  obtain ⟨q2, o2⟩ := hbx g2 (by simp)
  have hso := hM.ok.le
  have hrl := hM.rl
  refine callsIn_of_wp Tryd.func104 rfl trivial ?_ rfl
  simp only [Tryd.ntmps104, List.size_toArray, List.length_cons, List.length_nil, Nat.reduceAdd, Nat.reduceSub, Array.replicate_succ, Array.replicate_zero, List.push_toArray, List.append_toArray, List.nil_append, List.cons_append]
  gi_wp2
  gi_loopw [6] (fun p wr => ∃ (k : Nat) (O1 : Option Nat), p = .int .i64 (k : Int) ∧ k ≤ 512 ∧ J (entP L t k) O1 wr ∧ EnPre S B L d t g1 g2 ws wr ∧ O1 ≠ some g1 ∧ O1 ≠ some g2) (fun p _ => (512 - intOf p).toNat)
  case atStart => exact ⟨0, O, rfl, by omega, by rw [entP_0]; exact h0, ⟨hw, h1, h2⟩, o1, o2⟩
  case round =>
    clear h1 h2 hw h0 o1 o2
    obtain ⟨k, O1, rfl, hle, hj, ⟨hw, h1, h2⟩, o1, o2⟩ := hrel
    by_cases hlt : k < 512
    case neg =>
      obtain rfl : k = 512 := by omega
      have hj2 : Hid (∃ O', J (entP L t 512) O' wr) := Lib.hid ⟨_, hj⟩
      clear hj
      gi_wp2
      go_end0
      exact ⟨⟨_, rfl⟩, .inl hj2.out⟩
    have dk : decide ((k : Int) < 512) = true := by simp; omega
    have cpl := fun W => tplace_c (f := t) (i := k) (by omega) hlt W
    have cw := fun W (m : Mem W S B L d) => word_x m (a := 8 * (512 * t + k)) (by omega)
    rw [show 8 * (512 * t + k) / 8 = 512 * t + k by omega] at cw
    have cg := fun W => get_pte (wordL L (512 * t + k)) (wordL_lt hrl _) W
    have e1 : tE L t k = getP (wordL L (512 * t + k)) := rfl
    rw [← e1] at cg
    clear e1
    have hY2 : wordL L (512 * t + k) ≠ 0 → ∀ W1, J (entP L t k) O1 W1 → YieldAt Fence.wide 10 Tryd.prog l (encE (k, tE L t k)) W1 fun e W' => ∃ O', Rnd Pv O1 O' W1 W' ∧ ((e = .returned (.bool true) ∧ J (entP L t (k + 1)) O' W') ∨ (e = .returned (.bool false) ∧ ∃ pre, pre <+: entP L t 512 ∧ Jx pre O' W')) := fun hne W1 hj1 => by
      obtain ⟨r, e⟩ := entP_pre L t (512 - (k + 1)) (k + 1)
      rw [show k + 1 + (512 - (k + 1)) = 512 by omega, entP_yes hne, List.append_assoc, List.singleton_append] at e
      obtain ⟨fn, tmps, assign, body, hy, hR⟩ := hY _ _ _ O1 W1 e hj1
      refine ⟨fn, tmps, assign, body, hy, hR.mono ?_⟩
      rintro e W' ⟨O', hr, ⟨rfl, h⟩ | ⟨rfl, h⟩⟩
      · exact ⟨O', hr, .inl ⟨rfl, by rw [entP_yes hne]; exact h⟩⟩
      · exact ⟨O', hr, .inr ⟨rfl, _, ⟨r, by rw [List.append_assoc, List.singleton_append, ← e]⟩, h⟩⟩
    have hno : wordL L (512 * t + k) = 0 → entP L t (k + 1) = entP L t k := fun h => entP_no h
    have x2 : wr.cell? ⟨g2, 0, none⟩ = some (.int .u64 (t : Int)) := h2.cell 0
    generalize tE L t k = p at *
    generalize wordL L (512 * t + k) = v at *
    generalize 8 * (512 * t + k) = A8 at *
    obtain ⟨E1, hE1⟩ : ∃ E1, entP L t (k + 1) = E1 := ⟨_, rfl⟩
    rw [hE1] at hY2 hno
    have HE1 := Lib.hid hE1
    clear hE1
    clear hY
    gi_wp2
    refine wpIn_wide.2 ?_
    have hjd := hJ _ _ _ _ hj (Stp.ext (Ext.refl wr).drew)
    have hwd := hw.drew
    have h1d := h1.drew
    have h2d := h2.drew
    refine wp_region_seq [(0, false), (1, false), (2, false), (3, true), (4, true), (5, false)] Ext (by kernel_rfl) (by kernel_rfl) Ext.refl (fun _ _ _ => Ext.trans) ?_; simp only [List.map, nth_z, nth_s]
    clear hj hw h1 h2 x2
    generalize wr.drew = w0 at *
    refine seq_load rfl rfl (fun x hx => Blk.ext (h1d) hx) rfl Tryd.underlying25 (by kernel_rfl) (by rfl) ?_; intro K hK; simp only [Act.put, List.setIfInBounds_toArray, List.set_cons_zero, List.set_cons_succ]; refine hK _ ?_; clear hK K
    refine seq_value (.int .u64 (t : Int)) (by rfl) (fun x hx => by have hq := ext_cell hx ((h2d.cell 0)); simp [go_sem, execOp, Act.eval, hq]) ?_; intro K hK; simp only [Act.put, List.setIfInBounds_toArray, List.set_cons_zero, List.set_cons_succ]; refine hK _ ?_; clear hK K
    (repeat (first | (refine seq_skip (by rfl) ?_; intro K hK; simp only [Act.put, List.setIfInBounds_toArray, List.set_cons_zero, List.set_cons_succ]; refine hK _ ?_; clear hK K) | (refine seq_skipc (by rfl) ?_; intro K hK; simp only [Act.put, List.setIfInBounds_toArray, List.set_cons_zero, List.set_cons_succ]; refine hK _ ?_; clear hK K) | (refine seq_read (by rfl) (by rfl) ?_; intro K hK; go_big_quiet_op; first | go_big_quiet_on | (refine ⟨_, fun _ _ => rfl, ?_⟩; go_big_quiet_on))))
    refine seq_call (calls_ext (cpl _)) rfl Tryd.func58 (by kernel_rfl) (by kernel_rfl) (by rfl) (by rfl) ?_; intro K hK; rintro e w' ⟨rfl, hE⟩; refine ⟨_, rfl, hE, ?_⟩; simp only [Act.put, List.setIfInBounds_toArray, List.set_cons_zero, List.set_cons_succ]; refine hK _ _ ?_; clear hK K
    replace hjd := hJ _ _ _ _ hjd (Stp.ext hE)
    replace hwd := hwd.trans hE
    replace h1d := h1d.ext hE
    replace h2d := h2d.ext hE
    clear hE
    refine seq_call (cw _ (hM.ext hwd)) rfl Tryd.func57 (by kernel_rfl) (by kernel_rfl) (by rfl) (by rfl) ?_; intro K hK; rintro e w' ⟨rfl, hE⟩; refine ⟨_, rfl, hE, ?_⟩; simp only [Act.put, List.setIfInBounds_toArray, List.set_cons_zero, List.set_cons_succ]; refine hK _ _ ?_; clear hK K
    replace hjd := hJ _ _ _ _ hjd (Stp.ext hE)
    replace hwd := hwd.trans hE
    replace h1d := h1d.ext hE
    replace h2d := h2d.ext hE
    clear hE
    (repeat (first | (refine seq_skip (by rfl) ?_; intro K hK; simp only [Act.put, List.setIfInBounds_toArray, List.set_cons_zero, List.set_cons_succ]; refine hK _ ?_; clear hK K) | (refine seq_skipc (by rfl) ?_; intro K hK; simp only [Act.put, List.setIfInBounds_toArray, List.set_cons_zero, List.set_cons_succ]; refine hK _ ?_; clear hK K) | (refine seq_read (by rfl) (by rfl) ?_; intro K hK; go_big_quiet_op; first | go_big_quiet_on | (refine ⟨_, fun _ _ => rfl, ?_⟩; go_big_quiet_on))))
    refine seq_done ?_
    clear cpl cw
    by_cases hv : v = 0
    · have hj2 := Lib.hid (show J E1 O1 _ by rw [hno hv]; exact hjd)
      subst hv
      clear hY2 hno hjd cg
      gi_wp2
      refine ⟨trivial, ?_⟩
      gi_wp2
      refine ⟨fun _ h => (by cases h), ?_⟩
      gi_wp2
      go_roundw
      case rel => exact ⟨k + 1, O1, by go_num, by omega, by rw [HE1.out]; exact hj2.out, ⟨hwd, h1d, h2d⟩, o1, o2⟩
      case measure => simp [intOf]; omega
    · have dv : ((v : Int) != 0) = true := by simpa using hv
      have dv2 : (v == 0) = false := by simpa using hv
      have hY3 := hY2 hv
      clear hY2 hno hv
      gi_wp2_with (refine ⟨trivial, ?_⟩; gi_at_call 56; refine (callsIn_wide.2 (cg _)).mono ?_; rintro e W4 ⟨rfl, hE⟩; replace hjd := hJ _ _ _ _ hjd (Stp.ext hE); obtain ⟨fn, tmps, assign, body, hy, hR⟩ := hY3 W4 hjd; simp only [encE] at hy; replace hwd := hwd.trans hE; replace h1d := h1d.ext hE; replace h2d := h2d.ext hE; clear hE cg hY3)
      have hbo := hO _ _ _ hjd
      refine hR.mono ?_
      rintro e W5 ⟨O2, hr, ⟨rfl, hJ5⟩ | ⟨rfl, hJ5⟩⟩
      · have hJ6 := Lib.hid hJ5
        clear hJ5 hR hy hjd
        gi_wp2
        go_roundw
        case rel => exact ⟨k + 1, O2, by go_num, by omega, by rw [HE1.out]; exact hJ6.out, ⟨Below.trans hwd (hr.below hwd.size (fun k h => (hPv k h).1) fun k h => (hbo k h).1), hr.blk h1d q1 o1, hr.blk h2d q2 o2⟩, hr.off h1d.lt o1, hr.off h2d.lt o2⟩
        case measure => simp [intOf]; omega
      · obtain ⟨pre, hp, hx⟩ := hJ5
        have H : Hid (∃ pre O', pre <+: entP L t 512 ∧ Jx pre O' W5) := Lib.hid ⟨pre, _, hp, hx⟩
        clear hp hx hR hy hjd
        gi_wp2
        refine bodyPost_ret (results_none rfl _ _ _) rfl ?_
        exact ⟨⟨_, rfl⟩, .inr H.out⟩
end Go.Proofs.YticbjiddbjgikaaDoor
/- Package table: Reach, by a goto. -/
namespace Go.Proofs.YticbjiddbjgikaaDoor
open Go.ChangeShapes Go.WideShapes Go.ChangeAt Go.RowKit
set_option linter.unusedVariables false
set_option linter.unusedSimpArgs false
set_option maxRecDepth 10000
section
variable {P : Program} {ops : Array Oper} {R : World → World → Prop} {Q : Exit → Act → World → Prop} {N : Act → World → Prop} {o : Oper} {r : List (Oper × Bool)} {a : Act} {w : World}
/-- a part of a known block stored, in a region walked once -/
theorem seq_put_part {ty t : TypeId} {x y : Operand} {g k : Nat} {cs ds es : Array Value} (hop : o.op = .store ty x y) (hx : a.eval x = .pointer (some ⟨g, k, none⟩)) (hy : a.eval y = .agg ds) (hb : Blk w g t cs) (hn : k + ds.size ≤ cs.size) (he : putAt cs k ds.toList = es)
    (hi : (P.info? ty).map (·.size) = some ds.size) (h1 : ds.all (·.oneCell') = true) (hw : Region.wanted o (yielded ops a.tmps) = true) (hR : R w (w.setRow g es))
    (k : ∀ K : Act → World → Prop, (∀ a' w', wpSeq P ops R Q N r a' w' → K a' w') → K (a.put o.dst undef) (w.setRow g es)) : wpSeq P ops R Q N ((o, true) :: r) a w :=
  seq_store (w.setRow g es) hw (by
    unfold execOp
    simp only [hop, hx, hy, Sem.run_bind, run_store_part ty hb hn he hi h1, Result.andThen_ok, Sem.run_pure]) hR k
end
attribute [local irreducible] World.setRow World.alloc Blk
/-- nothing turns but a spot's entry -/
def KeepSp (g tb : Nat) (lv : Int) (x y : World) : Prop := Gap g (g + 1) x y ∧ ((∃ q, Blk x g 34 (sptC ⟨tb, lv, q⟩)) → ∃ q, Blk y g 34 (sptC ⟨tb, lv, q⟩))
theorem KeepSp.refl (g tb : Nat) (lv : Int) (x : World) : KeepSp g tb lv x x := ⟨Gap.refl _ _ _, id⟩
theorem KeepSp.trans {g tb : Nat} {lv : Int} {x y z : World} (h : KeepSp g tb lv x y) (k : KeepSp g tb lv y z) : KeepSp g tb lv x z := ⟨h.1.trans k.1, fun q => k.2 (h.2 q)⟩
theorem KeepSp.ext {g tb : Nat} {lv : Int} {x y : World} (h : Ext x y) : KeepSp g tb lv x y := ⟨Gap.ext h, fun ⟨q, hq⟩ => ⟨q, hq.ext h⟩⟩
theorem KeepSp.put {g tb : Nat} {lv : Int} (x : World) (q : Pt) (hg : g < x.heap.size) : KeepSp g tb lv x (x.setRow g (sptC ⟨tb, lv, q⟩)) := ⟨Gap.row _ (Nat.le_refl _) (Nat.lt_succ_self _) _, fun ⟨p, hp⟩ => ⟨q, hp.row _⟩⟩
theorem KeepSp.tb {g tb : Nat} {lv : Int} {x y : World} {q : Pt} (h : KeepSp g tb lv x y) (hb : Blk x g 34 (sptC ⟨tb, lv, q⟩)) : y.cell? ⟨g, 0, none⟩ = some (.int .u64 (tb : Int)) := by
  obtain ⟨p, hp⟩ := h.2 ⟨q, hb⟩
  exact (hp.cell 0).trans (sptC_tb _)
theorem KeepSp.lv {g tb : Nat} {lv : Int} {x y : World} {q : Pt} (h : KeepSp g tb lv x y) (hb : Blk x g 34 (sptC ⟨tb, lv, q⟩)) : y.cell? ⟨g, 1, none⟩ = some (.int .i64 lv) := by
  obtain ⟨p, hp⟩ := h.2 ⟨q, hb⟩
  exact (hp.cell 1).trans (sptC_lv _)
/-- what holds at the label -/
def RcJ (S : Nat) (B : Option Addr) (L : List (Nat × Nat)) (d k a n t : Nat) (w : World) (a' : Act) (w' : World) : Prop :=
  ∃ (m s : Nat) (p0 : Pt) (u12 u13 u14 u15 u16 u17 u18 u19 u20 u21 u22 u23 u24 u25 u26 u27 u28 u29 u30 u31 u32 u33 u34 u35 u36 u37 u38 u39 u40 u41 u42 u43 u44 u45 : Value), a' = { tmps := #[.agg #[.int .u64 (S : Int), .slice B L.length d], .int .u64 (t : Int), .int .i64 (n : Int), .int .u64 (a : Int), .int .i64 (k : Int), .pointer (some ⟨w.heap.size, 0, none⟩), undef, undef, undef, undef, .pointer (some ⟨w.heap.size + 1, 0, none⟩), .pointer (some ⟨w.heap.size + 1 + 1, 0, none⟩), u12, u13, u14, u15, u16, u17, u18, u19, u20, u21, u22, u23, u24, u25, u26, u27, u28, u29, u30, u31, u32, u33, u34, u35, u36, u37, u38, u39, u40, u41, u42, u43, u44, u45], defers := [] } ∧
    m ≤ 2 ∧ spotW L k m s a = spotW L k n t a ∧ s < S / 4096 ∧ TreeOk S L m s ∧ Blk w' w.heap.size 25 #[.int .u64 (S : Int), .slice B L.length d] ∧ Blk w' (w.heap.size + 1) 34 #[.int .u64 0, .int .i64 0, .bool false, .bool false, .bool false, .bool false, .bool false, .bool false, .bool false, .bool false, .int .u64 0, .int .u64 0, .int .u64 0] ∧ Blk w' (w.heap.size + 1 + 1) 34 (sptC ⟨s, (m : Int), p0⟩) ∧ Ext w w'
def lvAt (g : Nat) (w' : World) : Nat := match w'.cell? ⟨g, 1, none⟩ with | some (Value.int _ q) => q.toNat | _ => 0
theorem lvAt_of {g : Nat} {w' : World} {s : Nat} {m : Nat} {p : Pt} (h : Blk w' g 34 (sptC ⟨s, (m : Int), p⟩)) : lvAt g w' = m := by
  unfold lvAt
  rw [h.cell 1, sptC_lv]
  simp
theorem sptC_pp9 (s : Spt) : (sptC s)[11]? = some (.int .u64 (s.pt.pp : Int)) := by simp only [sptC_eq, ptC_eq]; rfl
theorem spt_first (t n : Nat) : sptC ⟨t, (n : Int), ⟨false, false, false, false, false, false, false, false, 0, 0, 0⟩⟩ = #[.int .u64 (t : Int), .int .i64 (n : Int), .bool false, .bool false, .bool false, .bool false, .bool false, .bool false, .bool false, .bool false, .int .u64 0, .int .u64 0, .int .u64 0] := by simp only [sptC_eq, ptC_eq]; rfl
set_option maxHeartbeats 4000000 in
theorem treach_c {S : Nat} {B : Option Addr} {L : List (Nat × Nat)} {d k a n t : Nat} (ha : a < 18446744073709551616) (hn : n ≤ 2) (hk : k ≤ 2) (w : World) (hT : TreeOk S L n t) (hM : Mem w S B L d) (hZ : Siz w) :
    Calls Tryd.prog 27 #[.agg #[.int .u64 (S : Int), .slice B L.length d], .int .u64 (t : Int), .int .i64 (n : Int), .int .u64 (a : Int), .int .i64 (k : Int)] w fun r w' => r = .returned (.agg (sptC (spotW L k n t a))) ∧ Ext w w' := by
  have hMm : ∀ W : World, Ext w W → Mem W S B L d := fun W e => hM.ext e
  have hSle := hM.ok.le
  go_enter Tryd.func27, Tryd.ntmps27
  go_wp2
  refine wp_scope_back 0 (RcJ S B L d k a n t w) (fun _ w' => lvAt (w.heap.size + 1 + 1) w') ?_ ?_ ?_
  · rfl
  · go_wp2
    refine ⟨n, t, ⟨false, false, false, false, false, false, false, false, 0, 0, 0⟩, _, _, _, _, _, _, _, _, _, _, _, _, _, _, _, _, _, _, _, _, _, _, _, _, _, _, _, _, _, _, _, _, _, _, rfl, hn, rfl, hT.top, hT, ((Blk.new w _ _).alloc _).alloc _, (blk_at (by simp)).alloc _, ?_, (((Ext.refl w).alloc _).alloc _).alloc _⟩
    rw [spt_first]
    exact blk_at (by simp)
  · rintro a' w1 ⟨m, s, p0, u12, u13, u14, u15, u16, u17, u18, u19, u20, u21, u22, u23, u24, u25, u26, u27, u28, u29, u30, u31, u32, u33, u34, u35, u36, u37, u38, u39, u40, u41, u42, u43, u44, u45, ha', hm, hsp, hs, hTm, h1, k2, h3, hE⟩
    dsimp only at ha'
    subst ha'
    have hμ := lvAt_of h3
    simp only [hμ]
    have HE := Lib.hid hE
    clear hE hμ
    have l3 := h3.lt
    have hi := ixN_lt a m
    have cix := fun W => index5_c (a : Int) (m : Int) (by omega) (by omega) (by omega) (by omega) W
    rw [idx_ix] at cix
    have cpl := fun W => tplace_c (f := s) (i := ixN a m) (by omega) hi W
    have cw := fun W (q : Mem W S B L d) => word_x q (a := 8 * (512 * s + ixN a m)) (by omega)
    rw [show 8 * (512 * s + ixN a m) / 8 = 512 * s + ixN a m by omega] at cw
    have cg := fun W => get_pte (wordL L (512 * s + ixN a m)) (wordL_lt hM.rl _) W
    have e1 : tE L s (ixN a m) = getP (wordL L (512 * s + ixN a m)) := rfl
    rw [← e1] at cg
    clear e1
    have clk := fun W (k : Siz W) => tleads_c (tE L s (ixN a m)) (Pt.ok_tE hM.rl s _) m hm W k
    have hgo : goB L s (ixN a m) m = (linkB (tE L s (ixN a m)) && !badB (tE L s (ixN a m)) (m : Int)) := rfl
    rw [← hgo] at clk
    clear hgo
    obtain ⟨ix, hix⟩ : ∃ ix, ixN a m = ix := ⟨_, rfl⟩
    rw [hix] at cix cpl cw cg clk hi
    have HI := Lib.hid hix
    obtain ⟨p, hp⟩ : ∃ p, tE L s ix = p := ⟨_, rfl⟩
    rw [hp] at cg clk
    have HQ := Lib.hid hp
    have HP : Hid (tE L s (ixN a m) = p) := Lib.hid (by rw [hix]; exact hp)
    clear hix hp
    generalize wordL L (512 * s + ix) = v at *
    generalize 8 * (512 * s + ix) = A8 at *
    go_wp2_with fail
    refine wp_region_seq [(0, false), (1, false), (2, false), (3, false), (4, false), (5, false), (6, true), (7, true), (8, true), (9, true), (10, false), (11, true)] (KeepSp (w.heap.size + 1 + 1) s (m : Int)) (by kernel_rfl) (by kernel_rfl) (KeepSp.refl _ _ _) (fun _ _ _ => KeepSp.trans) ?_
    simp only [List.map, nth_z, nth_s]
    have hE := (Ext.refl w1).drew
    (try replace hm := hm.ext hE); (try replace h1 := h1.ext hE); (try replace h3 := h3.ext hE); (try replace h4 := h4.ext hE); (try replace k2 := k2.ext hE); (try replace hM := hM.ext hE); (try replace HE := Lib.hid (HE.out.trans hE)); (try replace r0 := r0.ext hE); (try replace r1 := r1.ext hE); (try replace r2 := r2.ext hE); (try replace r3 := r3.ext hE); (try replace r4 := r4.ext hE); (try replace r5 := r5.ext hE); (try replace r6 := r6.ext hE)
    clear hE
    generalize w1.drew = w2 at *
    refine seq_load rfl rfl (fun x hx => Gap.blk hx.1 h1 (by omega)) rfl Tryd.underlying25 (by kernel_rfl) (by rfl) ?_; intro K hK; simp only [Act.put, List.setIfInBounds_toArray, List.set_cons_zero, List.set_cons_succ]; refine hK _ ?_; clear hK K
    (repeat (first | (refine seq_skip (by rfl) ?_; intro K hK; simp only [Act.put, List.setIfInBounds_toArray, List.set_cons_zero, List.set_cons_succ]; refine hK _ ?_; clear hK K) | (refine seq_skipc (by rfl) ?_; intro K hK; simp only [Act.put, List.setIfInBounds_toArray, List.set_cons_zero, List.set_cons_succ]; refine hK _ ?_; clear hK K) | (refine seq_read (by rfl) (by rfl) ?_; intro K hK; go_big_quiet_op; first | go_big_quiet_on | (refine ⟨_, fun _ _ => rfl, ?_⟩; go_big_quiet_on))))
    refine seq_value (.int .u64 (s : Int)) (by rfl) (fun x hx => by have hq := hx.tb h3; simp [go_sem, execOp, Act.eval, hq]) ?_; intro K hK; simp only [Act.put, List.setIfInBounds_toArray, List.set_cons_zero, List.set_cons_succ]; refine hK _ ?_; clear hK K
    (repeat (first | (refine seq_skip (by rfl) ?_; intro K hK; simp only [Act.put, List.setIfInBounds_toArray, List.set_cons_zero, List.set_cons_succ]; refine hK _ ?_; clear hK K) | (refine seq_skipc (by rfl) ?_; intro K hK; simp only [Act.put, List.setIfInBounds_toArray, List.set_cons_zero, List.set_cons_succ]; refine hK _ ?_; clear hK K) | (refine seq_read (by rfl) (by rfl) ?_; intro K hK; go_big_quiet_op; first | go_big_quiet_on | (refine ⟨_, fun _ _ => rfl, ?_⟩; go_big_quiet_on))))
    refine seq_value (.int .i64 (m : Int)) (by rfl) (fun x hx => by have hq := hx.lv h3; simp [go_sem, execOp, Act.eval, hq]) ?_; intro K hK; simp only [Act.put, List.setIfInBounds_toArray, List.set_cons_zero, List.set_cons_succ]; refine hK _ ?_; clear hK K
    refine seq_call (calls_ext (cix _)) rfl Tryd.func59 (by kernel_rfl) (by kernel_rfl) (by rfl) (by rfl) ?_; intro K hK; rintro e w' ⟨rfl, hE⟩; refine ⟨_, rfl, (KeepSp.ext hE), ?_⟩; simp only [Act.put, List.setIfInBounds_toArray, List.set_cons_zero, List.set_cons_succ]; refine hK _ _ ?_; clear hK K
    (try replace hm := hm.ext hE); (try replace h1 := h1.ext hE); (try replace h3 := h3.ext hE); (try replace h4 := h4.ext hE); (try replace k2 := k2.ext hE); (try replace hM := hM.ext hE); (try replace HE := Lib.hid (HE.out.trans hE)); (try replace r0 := r0.ext hE); (try replace r1 := r1.ext hE); (try replace r2 := r2.ext hE); (try replace r3 := r3.ext hE); (try replace r4 := r4.ext hE); (try replace r5 := r5.ext hE); (try replace r6 := r6.ext hE)
    clear hE
    refine seq_call (calls_ext (cpl _)) rfl Tryd.func58 (by kernel_rfl) (by kernel_rfl) (by rfl) (by rfl) ?_; intro K hK; rintro e w' ⟨rfl, hE⟩; refine ⟨_, rfl, (KeepSp.ext hE), ?_⟩; simp only [Act.put, List.setIfInBounds_toArray, List.set_cons_zero, List.set_cons_succ]; refine hK _ _ ?_; clear hK K
    (try replace hm := hm.ext hE); (try replace h1 := h1.ext hE); (try replace h3 := h3.ext hE); (try replace h4 := h4.ext hE); (try replace k2 := k2.ext hE); (try replace hM := hM.ext hE); (try replace HE := Lib.hid (HE.out.trans hE)); (try replace r0 := r0.ext hE); (try replace r1 := r1.ext hE); (try replace r2 := r2.ext hE); (try replace r3 := r3.ext hE); (try replace r4 := r4.ext hE); (try replace r5 := r5.ext hE); (try replace r6 := r6.ext hE)
    clear hE
    refine seq_call (cw _ (hMm _ HE.out)) rfl Tryd.func57 (by kernel_rfl) (by kernel_rfl) (by rfl) (by rfl) ?_; intro K hK; rintro e w' ⟨rfl, hE⟩; refine ⟨_, rfl, (KeepSp.ext hE), ?_⟩; simp only [Act.put, List.setIfInBounds_toArray, List.set_cons_zero, List.set_cons_succ]; refine hK _ _ ?_; clear hK K
    (try replace hm := hm.ext hE); (try replace h1 := h1.ext hE); (try replace h3 := h3.ext hE); (try replace h4 := h4.ext hE); (try replace k2 := k2.ext hE); (try replace hM := hM.ext hE); (try replace HE := Lib.hid (HE.out.trans hE)); (try replace r0 := r0.ext hE); (try replace r1 := r1.ext hE); (try replace r2 := r2.ext hE); (try replace r3 := r3.ext hE); (try replace r4 := r4.ext hE); (try replace r5 := r5.ext hE); (try replace r6 := r6.ext hE)
    clear hE
    refine seq_call (cg _) rfl Tryd.func56 (by kernel_rfl) (by kernel_rfl) (by rfl) (by rfl) ?_; intro K hK; rintro e w' ⟨rfl, hE⟩; refine ⟨_, rfl, (KeepSp.ext hE), ?_⟩; simp only [Act.put, List.setIfInBounds_toArray, List.set_cons_zero, List.set_cons_succ]; refine hK _ _ ?_; clear hK K
    (try replace hm := hm.ext hE); (try replace h1 := h1.ext hE); (try replace h3 := h3.ext hE); (try replace h4 := h4.ext hE); (try replace k2 := k2.ext hE); (try replace hM := hM.ext hE); (try replace HE := Lib.hid (HE.out.trans hE)); (try replace r0 := r0.ext hE); (try replace r1 := r1.ext hE); (try replace r2 := r2.ext hE); (try replace r3 := r3.ext hE); (try replace r4 := r4.ext hE); (try replace r5 := r5.ext hE); (try replace r6 := r6.ext hE)
    clear hE
    (repeat (first | (refine seq_skip (by rfl) ?_; intro K hK; simp only [Act.put, List.setIfInBounds_toArray, List.set_cons_zero, List.set_cons_succ]; refine hK _ ?_; clear hK K) | (refine seq_skipc (by rfl) ?_; intro K hK; simp only [Act.put, List.setIfInBounds_toArray, List.set_cons_zero, List.set_cons_succ]; refine hK _ ?_; clear hK K) | (refine seq_read (by rfl) (by rfl) ?_; intro K hK; go_big_quiet_op; first | go_big_quiet_on | (refine ⟨_, fun _ _ => rfl, ?_⟩; go_big_quiet_on))))
    have l3' := h3.lt
    refine seq_put_part rfl rfl rfl h3 (by simp [sptC_size, ptC_size]) (sptC_set_pt _ p) (pt_info _) (ptC_one _) (by rfl) (KeepSp.put _ p l3') ?_; intro K hK; simp only [Act.put, List.setIfInBounds_toArray, List.set_cons_zero, List.set_cons_succ]; refine hK _ _ ?_; clear hK K
    refine seq_done ?_
    replace h3 := h3.row (sptC ⟨s, (m : Int), p⟩)
    replace h1 := h1.apart (show w.heap.size ≠ w.heap.size + 1 + 1 by omega) (sptC ⟨s, (m : Int), p⟩)
    replace k2 := k2.apart (show w.heap.size + 1 ≠ w.heap.size + 1 + 1 by omega) (sptC ⟨s, (m : Int), p⟩)
    replace HE := Lib.hid (HE.out.row (show w.heap.size ≤ w.heap.size + 1 + 1 by omega) (sptC ⟨s, (m : Int), p⟩))
    generalize World.setRow _ (w.heap.size + 1 + 1) (sptC ⟨s, (m : Int), p⟩) = w4 at *
    clear cix cpl cw cg hi l3 l3'
    have hx := (h3.cell 1).trans (sptC_lv _)
    by_cases hkn : k < m
    case neg =>
      have dk : decide ((k : Int) < (m : Int)) = false := by simp; omega
      have dk2 : decide (k < m) = false := by simp; omega
      have hq := Lib.hid (spotW_no (L := L) (k := k) (n := m) (t := s) (a := a) fun h => hkn h.1)
      clear hkn clk
      go_wp2_with (first | (refine wpList_load_blk (by rfl) 34 _ rfl rfl h3 Tryd.underlying34 rfl (by kernel_rfl) ?_) | (refine wpList_store_blk rfl 34 _ _ rfl rfl rfl k2 (spt_info _) (by simp [sptC_size]) (sptC_one _) ?_))
      simp only [Exit.jump]
      (try simp only [Exit.inBlock, Exit.then]); (try rw [Exit.noGoto_ret]); refine bodyPost_ret (results_cell_row rfl _ _ _ _ _ _ _ rfl ((k2.row _).mem19) Tryd.underlying34 rfl (spt_info _)) rfl ?_
      exact ⟨by rw [← hsp, hq.out, HP.out], HE.out.row (by omega) _⟩
    have dk : decide ((k : Int) < (m : Int)) = true := by simp; omega
    have dk2 : decide (k < m) = true := by simp; omega
    cases hg : goB L s ix m
    · have hq := Lib.hid (spotW_no (L := L) (k := k) (n := m) (t := s) (a := a) fun h => by rw [HI.out, hg] at h; cases h.2)
      rw [hg] at clk
      clear hkn hg
      go_wp2_with (refine wpList_load_part (by rfl) 32 _ rfl rfl h3 (sptC_pt ⟨s, (m : Int), p⟩) Tryd.underlying32 rfl (pt_info _) ?_)
      refine (clk _ (hZ.ext HE.out)).mono ?_
      rintro e w' ⟨rfl, hE⟩
      (try replace hm := hm.ext hE); (try replace h1 := h1.ext hE); (try replace h3 := h3.ext hE); (try replace h4 := h4.ext hE); (try replace k2 := k2.ext hE); (try replace hM := hM.ext hE); (try replace HE := Lib.hid (HE.out.trans hE)); (try replace r0 := r0.ext hE); (try replace r1 := r1.ext hE); (try replace r2 := r2.ext hE); (try replace r3 := r3.ext hE); (try replace r4 := r4.ext hE); (try replace r5 := r5.ext hE); (try replace r6 := r6.ext hE)
      clear hE clk
      go_wp2_with (first | (refine wpList_load_blk (by rfl) 34 _ rfl rfl h3 Tryd.underlying34 rfl (by kernel_rfl) ?_) | (refine wpList_store_blk rfl 34 _ _ rfl rfl rfl k2 (spt_info _) (by simp [sptC_size]) (sptC_one _) ?_))
      simp only [Exit.jump]
      (try simp only [Exit.inBlock, Exit.then]); (try rw [Exit.noGoto_ret]); refine bodyPost_ret (results_cell_row rfl _ _ _ _ _ _ _ rfl ((k2.row _).mem19) Tryd.underlying34 rfl (spt_info _)) rfl ?_
      exact ⟨by rw [← hsp, hq.out, HP.out], HE.out.row (by omega) _⟩
    · obtain ⟨m', hm'⟩ : ∃ m', m = m' + 1 := ⟨m - 1, by omega⟩
      have hq : Hid (spotW L k m s a = spotW L k m' p.pp a) := Lib.hid (by
        rw [← HP.out]
        subst hm'
        exact spotW_go (by omega) (by rw [HI.out]; exact hg))
      have hTc : TreeOk S L m' p.pp := by
        rw [← HQ.out]
        subst hm'
        have hi2 := ixN_lt a (m' + 1)
        rw [HI.out] at hi2
        exact (hTm.child hi2 hg).1
      rw [hg] at clk
      have hs9 : (m : Int) - 1 = (m' : Int) := by omega
      have Hlt : Hid (m' < m) := Lib.hid (by omega)
      have hm2 : m' ≤ 2 := by omega
      clear hkn hg hm'
      go_wp2_with (refine wpList_load_part (by rfl) 32 _ rfl rfl h3 (sptC_pt ⟨s, (m : Int), p⟩) Tryd.underlying32 rfl (pt_info _) ?_)
      refine (clk _ (hZ.ext HE.out)).mono ?_
      rintro e w' ⟨rfl, hE⟩
      (try replace hm := hm.ext hE); (try replace h1 := h1.ext hE); (try replace h3 := h3.ext hE); (try replace h4 := h4.ext hE); (try replace k2 := k2.ext hE); (try replace hM := hM.ext hE); (try replace HE := Lib.hid (HE.out.trans hE)); (try replace r0 := r0.ext hE); (try replace r1 := r1.ext hE); (try replace r2 := r2.ext hE); (try replace r3 := r3.ext hE); (try replace r4 := r4.ext hE); (try replace r5 := r5.ext hE); (try replace r6 := r6.ext hE)
      replace hx := ext_cell hE hx
      clear hE clk
      have xp := (h3.cell 11).trans (sptC_pp9 ⟨s, (m : Int), p⟩)
      have hr1 := h3.row (sptC ⟨p.pp, (m : Int), p⟩)
      go_wp2_with (first | (refine wpList_store_cell rfl 22 _ _ rfl rfl rfl h3 (by simp [sptC_size]) (sptC_set_tb ⟨s, (m : Int), p⟩ p.pp) (by kernel_rfl) rfl rfl ?_) | (refine wpList_store_cell rfl 3 _ _ rfl rfl rfl hr1 (by simp [sptC_size]) (sptC_set_lv ⟨p.pp, (m : Int), p⟩ (m' : Int)) (by kernel_rfl) rfl rfl ?_))
      simp only [Act.put, List.setIfInBounds_toArray, List.set_cons_zero, List.set_cons_succ]
      have h4 := hr1.row (sptC ⟨p.pp, (m' : Int), p⟩)
      have h14 := (h1.apart (show w.heap.size ≠ w.heap.size + 1 + 1 by omega) (sptC ⟨p.pp, (m : Int), p⟩)).apart (show w.heap.size ≠ w.heap.size + 1 + 1 by omega) (sptC ⟨p.pp, (m' : Int), p⟩)
      have k24 := (k2.apart (show w.heap.size + 1 ≠ w.heap.size + 1 + 1 by omega) (sptC ⟨p.pp, (m : Int), p⟩)).apart (show w.heap.size + 1 ≠ w.heap.size + 1 + 1 by omega) (sptC ⟨p.pp, (m' : Int), p⟩)
      have HE4 := Lib.hid ((HE.out.row (show w.heap.size ≤ w.heap.size + 1 + 1 by omega) (sptC ⟨p.pp, (m : Int), p⟩)).row (show w.heap.size ≤ w.heap.size + 1 + 1 by omega) (sptC ⟨p.pp, (m' : Int), p⟩))
      have hμ4 := lvAt_of h4
      generalize (w'.setRow (w.heap.size + 1 + 1) (sptC ⟨p.pp, (m : Int), p⟩)).setRow (w.heap.size + 1 + 1) (sptC ⟨p.pp, (m' : Int), p⟩) = w6 at *
      go_step3
      refine ⟨rfl, ⟨m', p.pp, p, _, _, _, _, _, _, _, _, _, _, _, _, _, _, _, _, _, _, _, _, _, _, _, _, _, _, _, _, _, _, _, _, _, _, rfl, by omega, by rw [← hq.out]; exact hsp, hTc.top, hTc, h14, k24, h4, HE4.out⟩, ?_⟩
      rw [hμ4]
      exact Hlt.out
end Go.Proofs.YticbjiddbjgikaaDoor
