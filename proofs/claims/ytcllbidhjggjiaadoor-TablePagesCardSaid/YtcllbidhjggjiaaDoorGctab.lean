/- Package table: under: the iterator of all spots of a tree, which calls itself. -/
import Derived.Test.YtcllbidhjggjiaaDoorCtaba
namespace Go.Proofs.YtcllbidhjggjiaaDoor
open Go.ChangeShapes Go.WideShapes Go.ChangeAt Go.RowKit
set_option linter.unusedVariables false
set_option linter.unusedSimpArgs false
set_option maxRecDepth 10000
attribute [local go_sem] Oper.semAt_some

/-- a spot handed out, with the address at which it begins -/
def encU (x : Nat × Spt) : Array Value := #[.int .u64 (x.1 : Int), .agg (sptC x.2)]
/-- the maker of the iterator -/
theorem tund_c (S : Nat) (B : Option Addr) (l d t n b : Nat) (w : World) :
    Calls Tryd.prog 75 #[.agg #[.int .u64 (S : Int), .slice B l d], .int .u64 (t : Int), .int .i64 (n : Int), .int .u64 (b : Int)] w fun e w' => e = .returned (.func (.func 96) #[] #[.pointer (some ⟨w.heap.size, 0, none⟩), .pointer (some ⟨w.heap.size + 1, 0, none⟩), .pointer (some ⟨w.heap.size + 1 + 1, 0, none⟩), .pointer (some ⟨w.heap.size + 1 + 1 + 1, 0, none⟩)]) ∧ w' = (((w.alloc (.cells #[.int .u64 (S : Int), .slice B l d] 25)).alloc (.cells #[.int .u64 (t : Int)] 22)).alloc (.cells #[.int .i64 (n : Int)] 3)).alloc (.cells #[.int .u64 (b : Int)] 22) := by
  go_enter Tryd.func75, Tryd.ntmps75
  go_wp2
  go_ret
  exact ⟨rfl, rfl⟩
attribute [local irreducible] World.setRow World.alloc Blk
/-- what the iterator wants of a world: the memory, and its boxes -/
structure UnW (S : Nat) (B : Option Addr) (L : List (Nat × Nat)) (d t n b g1 g2 g3 g4 : Nat) (ws W : World) : Prop where
  e : Ext ws W
  m : Blk W g1 25 #[.int .u64 (S : Int), .slice B L.length d]
  t : Blk W g2 22 #[.int .u64 (t : Int)]
  n : Blk W g3 3 #[.int .i64 (n : Int)]
  b : Blk W g4 22 #[.int .u64 (b : Int)]
section
variable {S : Nat} {B : Option Addr} {L : List (Nat × Nat)} {d t n b g1 g2 g3 g4 : Nat} {ws W W' : World}
theorem UnW.ext (h : UnW S B L d t n b g1 g2 g3 g4 ws W) (hE : Ext W W') : UnW S B L d t n b g1 g2 g3 g4 ws W' := ⟨h.e.trans hE, h.m.ext hE, h.t.ext hE, h.n.ext hE, h.b.ext hE⟩
theorem UnW.rnd {Pv : Nat → Prop} {O O' : Option Nat} (h : UnW S B L d t n b g1 g2 g3 g4 ws W) (hr : Rnd Pv O O' W W') (hp : ∀ k, k ∈ [g1, g2, g3, g4] → ¬ Pv k) (ho : ∀ k, k ∈ [g1, g2, g3, g4] → O ≠ some k) (hP : ∀ k, Pv k → ws.heap.size ≤ k) (hO : ∀ k, O = some k → ws.heap.size ≤ k) : UnW S B L d t n b g1 g2 g3 g4 ws W' :=
  ⟨Below.trans h.e (hr.below h.e.size hP hO), hr.blk h.m (hp _ (by simp)) (ho _ (by simp)), hr.blk h.t (hp _ (by simp)) (ho _ (by simp)), hr.blk h.n (hp _ (by simp)) (ho _ (by simp)), hr.blk h.b (hp _ (by simp)) (ho _ (by simp))⟩
theorem UnW.stp {C : Nat} {O : Option Nat} (h : UnW S B L d t n b g1 g2 g3 g4 ws W) (hs : Stp C O W W') (hg : ∀ k, k ∈ [g1, g2, g3, g4] → k < C) (hz : ws.heap.size ≤ C) : UnW S B L d t n b g1 g2 g3 g4 ws W' :=
  ⟨Below.trans h.e (hs.below hz h.e.size), hs.blk h.m (.inl (hg _ (by simp))), hs.blk h.t (.inl (hg _ (by simp))), hs.blk h.n (.inl (hg _ (by simp))), hs.blk h.b (.inl (hg _ (by simp)))⟩
theorem UnW.lt (h : UnW S B L d t n b g1 g2 g3 g4 ws W) : ∀ k, k ∈ [g1, g2, g3, g4] → k < W.heap.size := by
  intro k hk
  simp only [List.mem_cons, List.not_mem_nil, or_false] at hk
  rcases hk with rfl | rfl | rfl | rfl
  · exact h.m.lt
  · exact h.t.lt
  · exact h.n.lt
  · exact h.b.lt
end
/-- the contract of the iterator at a level -/
def UnG (S : Nat) (B : Option Addr) (L : List (Nat × Nat)) (d : Nat) (ws : World) (n : Nat) : Prop := ∀ t b g1 g2 g3 g4 : Nat, TreeOk S L n t → szN (n + 1) ∣ b → b + szN (n + 1) ≤ szN 3 →
  Gen Tryd.prog 96 #[.pointer (some ⟨g1, 0, none⟩), .pointer (some ⟨g2, 0, none⟩), .pointer (some ⟨g3, 0, none⟩), .pointer (some ⟨g4, 0, none⟩)] encU (UnW S B L d t n b g1 g2 g3 g4 ws) ws.heap.size [g1, g2, g3, g4] (unL L n t b)
set_option maxHeartbeats 2000000 in
theorem tund_step {S : Nat} {B : Option Addr} {L : List (Nat × Nat)} {d : Nat} {ws : World} (hM : Mem ws S B L d) (hZ : Siz ws) (n : Nat) (hn : n ≤ 2) (ih : ∀ m, n = m + 1 → UnG S B L d ws m) : UnG S B L d ws n := by
  intro t b g1 g2 g3 g4 hT hbd hbl l Pv J Jx O W hU hn0 hPv hbx hO hJ hJx hY h0
  have ht := hT.top
  have hb0 := hO _ _ _ h0
  have hUl := hU.lt
  have h16 := Blk.new W 116 #[.func (.yield l) #[] #[]]
  have hE := (Ext.refl W).alloc (.cells #[.func (.yield l) #[] #[]] 116)
  have hz2 : (W.alloc (.cells #[.func (.yield l) #[] #[]] 116)).heap.size = W.heap.size + 1 := by simp
  have hU2 := hU.ext hE
  have h02 := hJ _ _ _ _ h0 (Stp.ext hE)
  refine callsIn_of_wp_marks Tryd.func96 rfl trivial ?_ rfl
  simp only [Tryd.ntmps96, List.size_toArray, List.length_cons, List.length_nil, Nat.reduceAdd, Nat.reduceSub, Array.replicate_succ, Array.replicate_zero, List.push_toArray, List.append_toArray, List.nil_append, List.cons_append]
  have x2 := hU2.t.cell 0
  have hm2 := hU2.m
  gi_wp2_with (refine wpListIn_load_blk (fun _ => trivial) (by rfl) 25 _ rfl rfl hm2 Tryd.underlying25 rfl (by kernel_rfl) ?_)
  generalize W.alloc (.cells #[.func (.yield l) #[] #[]] 116) = W2 at *
  refine ⟨trivial, (callsIn_wide.2 (tent_c S B L.length d t W2)).mono ?_⟩
  rintro e w1 ⟨rfl, hw1⟩
  have hE5 : Ext W2 w1 := by rw [hw1]; exact ((Ext.refl W2).alloc _).alloc _
  have q1 : Blk w1 W2.heap.size 25 #[.int .u64 (S : Int), .slice B L.length d] := by rw [hw1]; exact (Blk.new W2 _ _).alloc _
  have q2 : Blk w1 (W2.heap.size + 1) 22 #[.int .u64 (t : Int)] := by rw [hw1]; exact blk_at (by simp)
  have hs5 : w1.heap.size = W2.heap.size + 1 + 1 := by rw [hw1]; simp
  clear hw1 x2 hm2
  rw [hz2] at q1 q2 hs5 ⊢
  have hU1 := hU2.ext hE5
  have h16b := h16.ext hE5
  have h01 := hJ _ _ _ _ h02 (Stp.ext hE5)
  have hszW : W.heap.size ≤ w1.heap.size := by omega
  gi_wp2_with fail
  refine range_out (tent_gen (g1 := W.heap.size + 1) (g2 := W.heap.size + 1 + 1) hM ht) rfl (enters_of Tryd.func73 (by kernel_rfl) rfl) (fun W' h => EnPre.ext ⟨hU1.e, q1, q2⟩ h) hU1.e.size Pv O (fun k h => ⟨(hPv k h).1, by have := (hPv k h).2; omega⟩)
    (fun k h => ?bx) (fun k h => by have := (hb0 k h).2; omega) (fun _ => rfl)
    (fun pre O' W' => J (pre.flatMap (unO L n t b)) O' W' ∧ UnW S B L d t n b g1 g2 g3 g4 ws W' ∧ Blk W' W.heap.size 116 #[.func (.yield l) #[] #[]] ∧ ∀ k, k ∈ [g1, g2, g3, g4, W.heap.size] → O' ≠ some k)
    (fun c pre O' W' => c = .ret ∧ ∃ q, q <+: unL L n t b ∧ Jx q O' W')
    (fun s O' W' h => hO _ _ _ h.1) ?abd (fun c s O' W1 W' h st => ⟨h.1, h.2.choose, h.2.choose_spec.1, hJx _ _ _ _ h.2.choose_spec.2 (st.more hszW)⟩) ?i0 ?round ?done ?stop
  case bx =>
    have hk : k = W.heap.size + 1 ∨ k = W.heap.size + 1 + 1 := by simpa using h
    exact ⟨by omega, fun q => by have := (hPv k q).2; omega, fun q => by have := (hb0 k q).2; omega⟩
  case abd =>
    rintro s O' W1 W' ⟨h1, h2, h3, h4⟩ st
    exact ⟨hJ _ _ _ _ h1 (st.more hszW), h2.stp st (fun k hk => Nat.lt_of_lt_of_le (hUl k hk) hszW) hU1.e.size, st.blk h3 (.inl (by omega)), h4⟩
  case i0 =>
    refine ⟨h01, hU1, h16b, fun k hk e => ?_⟩
    simp only [List.mem_cons, List.not_mem_nil, or_false] at hk
    have h9 := (hb0 k e).2
    rcases hk with rfl | rfl | rfl | rfl | rfl
    · exact (hbx _ (by simp)).2 e
    · exact (hbx _ (by simp)).2 e
    · exact (hbx _ (by simp)).2 e
    · exact (hbx _ (by simp)).2 e
    · omega
  case done =>
    rintro D O' W' hD hDO ⟨h1, -⟩ hK
    rw [← unL_flat] at h1
    gi_wp2
    refine ⟨by simp, .inl ⟨_, _, rfl, run_takeDeferred hK, ?_⟩⟩
    exact ⟨_, results_none rfl _ _ _, ⟨_, rfl⟩, .inl ⟨O', hJ _ _ _ _ h1 (Stp.put _ (by omega) hDO _)⟩⟩
  case stop =>
    rintro D c pre O' W' hD hDO hp ⟨rfl, q, hq, h1⟩ hK
    gi_wp2
    refine ⟨by simp, .inl ⟨_, _, rfl, run_takeDeferred hK, ?_⟩⟩
    exact ⟨_, results_none rfl _ _ _, ⟨_, rfl⟩, .inr ⟨q, O', hq, hJx _ _ _ _ h1 (Stp.put _ (by omega) hDO _)⟩⟩
  case round =>
    intro l2 pre x post O1 W3 hl2 hx hI hlt hol hr
    obtain ⟨hj, hUx, hy16, hoff⟩ := hI
    have hmem : x ∈ entP L t 512 := by rw [hx]; simp
    obtain ⟨hx1, hx2, -⟩ := entP_mem hmem
    have hsp := split_flat (f := unO L n t b) hx
    rw [← unL_flat] at hsp
    have hok : x.2.ok := by rw [hx2]; exact Pt.ok_tE hM.rl _ _
    have hbi := base_in hbd hbl hx1
    have clk := fun W (k : Siz W) => tleads_c x.2 hok n hn W k
    have cbd := fun W (k : Siz W) => bad_c x.2 hok (n : Int) (by omega) (by omega) W k
    have csz := fun W (k : Siz W) => size5_c (n : Int) (by omega) (by omega) W k
    rw [siz_szN] at csz
    have s3 := sz_vals.2.2.2
    have hbt := hbi.lt
    have hszp := szN_pos n
    have hsz : szN n ≤ 1073741824 := by
      have := sz_vals
      rcases (by omega : n = 0 ∨ n = 1 ∨ n = 2) with rfl | rfl | rfl <;> omega
    have hkq : x.1 * szN n ≤ 511 * 1073741824 := Nat.mul_le_mul (by omega) hsz
    have hs0 : IntKind.u64.wrap ((x.1 : Nat) : Int) = (x.1 : Int) := by rw [IntKind.wrap_u64]; omega
    have hs1 : IntKind.u64.wrap ((x.1 : Int) * ((szN n : Nat) : Int)) = ((x.1 * szN n : Nat) : Int) := by rw [IntKind.wrap_u64, ← Int.natCast_mul]; omega
    have hs2 : IntKind.u64.wrap ((b : Int) + ((x.1 * szN n : Nat) : Int)) = ((b + x.1 * szN n : Nat) : Int) := by rw [IntKind.wrap_u64, ← Int.natCast_add]; omega
    have hob : badB x.2 (n : Int) = true → (pre ++ [x]).flatMap (unO L n t b) = pre.flatMap (unO L n t b) := fun h => by rw [flat_snoc _ _ _ (unO_bad h), List.append_nil]
    have hyd : badB x.2 (n : Int) = false → ∃ R, unL L n t b = pre.flatMap (unO L n t b) ++ (b + x.1 * szN n, ⟨t, (n : Int), x.2⟩) :: R := fun h => by
      cases hl : linkB x.2
      · rw [unO_leaf h hl] at hsp
        exact ⟨_, hsp⟩
      · cases n with
        | zero => rw [not_low h] at hl; cases hl
        | succ m =>
          rw [unO_go h hl, List.cons_append] at hsp
          exact ⟨_, hsp⟩
    have hlf : badB x.2 (n : Int) = false → linkB x.2 = false → (pre ++ [x]).flatMap (unO L n t b) = pre.flatMap (unO L n t b) ++ [(b + x.1 * szN n, ⟨t, (n : Int), x.2⟩)] := fun h1 h2 => flat_snoc _ _ _ (unO_leaf h1 h2)
    have hgo : badB x.2 (n : Int) = false → linkB x.2 = true → ∃ m, n = m + 1 ∧ TreeOk S L m x.2.pp ∧ szN (m + 1) ∣ b + x.1 * szN n ∧ b + x.1 * szN n + szN (m + 1) ≤ szN 3 ∧ (pre ++ [x]).flatMap (unO L n t b) = pre.flatMap (unO L n t b) ++ (b + x.1 * szN n, ⟨t, (n : Int), x.2⟩) :: unL L m x.2.pp (b + x.1 * szN n) ∧
        ∀ q y r, unL L m x.2.pp (b + x.1 * szN n) = q ++ y :: r → ∃ R, unL L n t b = (pre.flatMap (unO L n t b) ++ (b + x.1 * szN n, ⟨t, (n : Int), x.2⟩) :: q) ++ y :: R := fun h1 h2 => by
      cases n with
      | zero => rw [not_low h1] at h2; cases h2
      | succ m =>
        have hg : goB L t x.1 (m + 1) = true := by rw [go_eq hx2, h2, h1]; rfl
        refine ⟨m, rfl, by rw [hx2]; exact (hT.child hx1 hg).1, hbi.dv, hbi.lt, flat_snoc _ _ _ (unO_go h1 h2), fun q y r e => ?_⟩
        rw [unO_go h1 h2, e] at hsp
        exact ⟨r ++ post.flatMap (unO L (m + 1) t b), by rw [hsp]; simp⟩
    obtain ⟨i, p⟩ := x
    simp only at *
    simp only [encE]
    obtain ⟨F, hF⟩ : ∃ F, (pre ++ [(i, p)]).flatMap (unO L n t b) = F := ⟨_, rfl⟩
    obtain ⟨U, hU9⟩ : ∃ U, pre.flatMap (unO L n t b) = U := ⟨_, rfl⟩
    obtain ⟨a, ha⟩ : ∃ a, b + i * szN n = a := ⟨_, rfl⟩
    rw [hU9] at hj hob hyd hlf hgo
    rw [hF] at hob hlf hgo
    rw [ha] at hs2 hyd hlf hgo
    have HF := Lib.hid hF
    generalize i * szN n = iq at *
    generalize szN n = sz at *
    have hUl2 : ∀ k, k ∈ [g1, g2, g3, g4] → k < l2 := fun k hk => by have := hUl k hk; omega
    have hp4 : ∀ k, k ∈ [g1, g2, g3, g4] → ¬ Pv k := fun k hk => (hbx k hk).1
    have hp16 : ¬ Pv W.heap.size := fun q => by have := (hPv _ q).2; omega
    have hP : ∀ k, Pv k → ws.heap.size ≤ k := fun k h => (hPv k h).1
    clear h0 h02 h01 h16 h16b hE5 q1 q2 hU hU2 hU1 hx2 hx hsp hmem hF hU9 ha hbx hbi
    have k2 : Blk (W3.alloc (.cells #[.bool false, .bool false, .bool false, .bool false, .bool false, .bool false, .bool false, .bool false, .int .u64 0, .int .u64 0, .int .u64 0] 53)) W3.heap.size 53 #[.bool false, .bool false, .bool false, .bool false, .bool false, .bool false, .bool false, .bool false, .int .u64 0, .int .u64 0, .int .u64 0] := Blk.new W3 _ _
    have hX : Ext W3 ((W3.alloc (.cells #[.bool false, .bool false, .bool false, .bool false, .bool false, .bool false, .bool false, .bool false, .int .u64 0, .int .u64 0, .int .u64 0] 53)).setRow W3.heap.size (ptC p)) := ((Ext.refl W3).alloc _).row (Nat.le_refl _) _
    refine wpIn_seq (region_round (by rfl) (fun ⟨_, _, h⟩ => h) ?_)
    go_wp2
    refine region_round (by rfl) (fun ⟨_, _, h⟩ => h) ?_
    go_wp2_with (refine wpList_store_blk rfl 53 _ _ rfl rfl rfl k2 (pt_info _) (by simp [ptC_size]) (ptC_one _) ?_)
    refine ⟨hX, ?_⟩
    intro W4 st hr4 hk4
    have hB := blk_keep hk4 (k2.row (ptC p))
    have hgx : W3.heap.size ≤ W4.heap.size := Nat.le_trans hX.size st.size
    have hgb : W3.heap.size < W4.heap.size := hB.lt
    have hstW : Stp l2 O1 W3 W4 := (Stp.ext hX).trans st
    have hog : O1 ≠ some W3.heap.size := fun q => by have := (hO _ _ _ hj _ q).2; omega
    replace hj := hJ _ _ _ _ hj (hstW.more (by omega))
    replace hUx := hUx.stp hstW hUl2 (by omega)
    replace hy16 := hstW.blk hy16 (.inl (by omega))
    have hWW : W.heap.size < W3.heap.size := by omega
    clear hr hX k2 hk4 st hstW
    have hbP : ¬ Pv W3.heap.size := fun q => by have := (hPv _ q).2; omega
    obtain ⟨g, hg9⟩ : ∃ g, W3.heap.size = g := ⟨_, rfl⟩
    rw [hg9] at hB hbP hog hgb hWW hgx ⊢
    have hR : Rnd Pv O1 O1 W4 W4 := Rnd.refl W4
    clear hg9
    have xn := hUx.n.cell 0
    gi_wp2_with (refine wpListIn_load_blk (fun _ => trivial) (by rfl) 53 _ rfl rfl hB Tryd.underlying53 rfl (by kernel_rfl) ?_)
    refine ⟨trivial, (CallsIn.inRound l2 (callsIn_wide.2 (cbd _ (hZ.ext hUx.e)))).mono ?_⟩
    rintro e W5 ⟨rfl, hE⟩
    replace hj := hJ _ _ _ _ hj (Stp.ext hE); replace hUx := hUx.ext hE; replace hy16 := hy16.ext hE; replace hB := hB.ext hE; replace hR := hR.trans (Rnd.ext hE)
    clear hE cbd xn
    cases hbad : badB p (n : Int)
    case true =>
      have e := hob hbad
      clear hob hyd hlf hgo hbad clk csz hs0 hs1 hs2
      gi_wp2
      exact ⟨O1, hR, by rw [HF.out, e]; exact hj, hUx, hy16, hoff⟩
    replace hyd := hyd hbad
    replace hlf := hlf hbad
    replace hgo := hgo hbad
    rw [hbad] at clk
    simp only [Bool.not_false, Bool.and_true] at clk
    clear hob hbad
    gi_wp2_with fail
    refine region_seq_round [(0, false), (1, false), (2, false), (3, false), (4, true), (5, false), (6, false), (7, false)] Ext (by rfl) (fun ⟨_, _, h⟩ => h) (by kernel_rfl) (by kernel_rfl) (fun x => Ext.refl x) (fun _ _ _ => Ext.trans) ?_
    simp only [List.map, nth_z, nth_s]
    have hE := (Ext.refl W5).drew
    replace hj := hJ _ _ _ _ hj (Stp.ext hE); replace hUx := hUx.ext hE; replace hy16 := hy16.ext hE; replace hB := hB.ext hE; replace hR := hR.trans (Rnd.ext hE)
    clear hE
    generalize W5.drew = W6 at *
    refine seq_value (.int .u64 (b : Int)) (by rfl) (fun y hy => by have hq := (hUx.b.ext hy).cell 0; simp [go_sem, execOp, Act.eval, hq]) ?_; intro K hK; simp only [Act.put, List.setIfInBounds_toArray, List.set_cons_zero, List.set_cons_succ]; refine hK _ ?_; clear hK K
    (repeat (first | (refine seq_skip (by rfl) ?_; intro K hK; simp only [Act.put, List.setIfInBounds_toArray, List.set_cons_zero, List.set_cons_succ]; refine hK _ ?_; clear hK K) | (refine seq_skipc (by rfl) ?_; intro K hK; simp only [Act.put, List.setIfInBounds_toArray, List.set_cons_zero, List.set_cons_succ]; refine hK _ ?_; clear hK K) | (refine seq_read (by rfl) (by rfl) ?_; intro K hK; go_big_quiet_op; first | go_big_quiet_on | (refine ⟨_, fun _ _ => rfl, ?_⟩; go_big_quiet_on))))
    refine seq_value (.int .i64 (n : Int)) (by rfl) (fun y hy => by have hq := (hUx.n.ext hy).cell 0; simp [go_sem, execOp, Act.eval, hq]) ?_; intro K hK; simp only [Act.put, List.setIfInBounds_toArray, List.set_cons_zero, List.set_cons_succ]; refine hK _ ?_; clear hK K
    refine seq_call (csz _ (hZ.ext hUx.e)) rfl Tryd.func97 (by kernel_rfl) (by kernel_rfl) (by rfl) (by rfl) ?_; intro K hK; rintro e w' ⟨rfl, rfl⟩; refine ⟨_, rfl, (Ext.refl _), ?_⟩; simp only [Act.put, List.setIfInBounds_toArray, List.set_cons_zero, List.set_cons_succ]; refine hK _ _ ?_; clear hK K
    (repeat (first | (refine seq_skip (by rfl) ?_; intro K hK; simp only [Act.put, List.setIfInBounds_toArray, List.set_cons_zero, List.set_cons_succ]; refine hK _ ?_; clear hK K) | (refine seq_skipc (by rfl) ?_; intro K hK; simp only [Act.put, List.setIfInBounds_toArray, List.set_cons_zero, List.set_cons_succ]; refine hK _ ?_; clear hK K) | (refine seq_read (by rfl) (by rfl) ?_; intro K hK; go_big_quiet_op; first | go_big_quiet_on | (refine ⟨_, fun _ _ => rfl, ?_⟩; go_big_quiet_on))))
    refine seq_done ?_
    clear csz hs0 hs1 hs2 hbt hsz hszp hkq
    have hob1 := hO _ _ _ hj
    have hRy : YieldAt Fence.wide 10 Tryd.prog l (encU (a, ⟨t, (n : Int), p⟩)) W6 fun e W' => ∃ O', Rnd Pv O1 O' W6 W' ∧ ((e = .returned (.bool true) ∧ J (U ++ [(a, ⟨t, (n : Int), p⟩)]) O' W') ∨ (e = .returned (.bool false) ∧ (U ++ [(a, ⟨t, (n : Int), p⟩)] <+: unL L n t b) ∧ Jx (U ++ [(a, ⟨t, (n : Int), p⟩)]) O' W')) := by
      obtain ⟨R, hR9⟩ := hyd
      obtain ⟨fn, tmps, assign, body, hy, hRi⟩ := hY _ _ _ _ _ hR9 hj
      refine ⟨fn, tmps, assign, body, hy, hRi.mono ?_⟩
      rintro e W' ⟨O', h1, ⟨h2, h3⟩ | ⟨h2, h3⟩⟩
      · exact ⟨O', h1, .inl ⟨h2, h3⟩⟩
      · exact ⟨O', h1, .inr ⟨h2, ⟨R, by rw [hR9]; simp⟩, h3⟩⟩
    obtain ⟨fn, tmps, assign, body, hy, hRi⟩ := hRy
    simp only [encU] at hy
    have hbd9 : Tryd.prog.built 65 [(0, .int .u64 (t : Int)), (1, .int .i64 (n : Int)), (2, .agg (ptC p))] = some (sptC ⟨t, (n : Int), p⟩) := spt_build ⟨t, (n : Int), p⟩
    generalize hsp9 : (⟨t, (n : Int), p⟩ : Spt) = sp at *
    have HSP := Lib.hid hsp9
    clear hsp9 hyd
    have xn := hUx.n.cell 0
    have xt := hUx.t.cell 0
    have xy := hy16.cell 0
    gi_wp2_with (first | (refine wpListIn_load_blk (fun _ => trivial) (by rfl) 53 _ rfl rfl hB Tryd.underlying53 rfl (by kernel_rfl) ?_) | (refine wpListIn_build_as (t := 65) (fun _ => trivial) (by rfl) rfl (by exact hbd9) ?_))
    refine (round_any hRi).mono ?_
    rintro e W7 ⟨O2, hr, ⟨rfl, hj7⟩ | ⟨rfl, hpre, hj7⟩⟩
    rotate_left
    · have HJ := Lib.hid hj7
      clear hj7 hRi hy hlf hgo xn xt xy hj
      gi_wp2
      exact ⟨O2, hR.trans hr, rfl, _, hpre, HJ.out⟩
    replace hUx := hUx.rnd hr hp4 (fun k hk => hoff k (by simp at hk ⊢; omega)) hP (fun k h => (hob1 k h).1)
    have hoff2 := off_rnd hr hoff (fun k hk => by have := hR.size; simp at hk; have := hUl k; simp at this; omega)
    replace hB := hr.blk hB hbP hog
    replace hy16 := hr.blk hy16 hp16 (hoff _ (by simp))
    have hog2 := hr.off (Nat.lt_of_lt_of_le hgb hR.size) hog
    replace hR := hR.trans hr
    clear hj hRi hy hr hoff hog hob1 xn xt xy hbd9 fn tmps assign body
    have hj := hj7
    clear hj7
    have xn := hUx.n.cell 0
    gi_wp2_with (refine wpListIn_load_blk (fun _ => trivial) (by rfl) 53 _ rfl rfl hB Tryd.underlying53 rfl (by kernel_rfl) ?_)
    refine ⟨trivial, (CallsIn.inRound l2 (callsIn_wide.2 (clk _ (hZ.ext hUx.e)))).mono ?_⟩
    rintro e W8 ⟨rfl, hE⟩
    replace hj := hJ _ _ _ _ hj (Stp.ext hE); replace hUx := hUx.ext hE; replace hy16 := hy16.ext hE; replace hB := hB.ext hE; replace hR := hR.trans (Rnd.ext hE)
    clear hE clk xn
    cases hlk : linkB p
    · have e := hlf hlk
      clear hlf hgo hlk
      gi_wp2
      exact ⟨O2, hR, by rw [HF.out, e]; exact hj, hUx, hy16, hoff2⟩
    obtain ⟨m, rfl, hT2, hd2, hl3, hfl, hnx⟩ := hgo hlk
    have hgen := fun g1 g2 g3 g4 => ih m rfl p.pp a g1 g2 g3 g4 hT2 hd2 hl3
    clear hlf hlk ih
    have hob2 := hO _ _ _ hj
    have xn := hUx.n.cell 0
    have hm8 := hUx.m
    have x9 := (hB.cell 9).trans (ptC_pp p)
    have hs9 : ((m + 1 : Nat) : Int) - 1 = (m : Int) := by omega
    gi_wp2_with (refine wpListIn_load_blk (fun _ => trivial) (by rfl) 25 _ rfl rfl hm8 Tryd.underlying25 rfl (by kernel_rfl) ?_)
    refine ⟨trivial, (CallsIn.inRound l2 (callsIn_wide.2 (tund_c S B L.length d p.pp m a W8))).mono ?_⟩
    rintro e W9 ⟨rfl, hw9⟩
    have hE : Ext W8 W9 := by rw [hw9]; exact ((((Ext.refl W8).alloc _).alloc _).alloc _).alloc _
    have b1 : Blk W9 W8.heap.size 25 #[.int .u64 (S : Int), .slice B L.length d] := by rw [hw9]; exact (((Blk.new W8 _ _).alloc _).alloc _).alloc _
    have b2 : Blk W9 (W8.heap.size + 1) 22 #[.int .u64 (p.pp : Int)] := by rw [hw9]; exact ((blk_at (by simp)).alloc _).alloc _
    have b3 : Blk W9 (W8.heap.size + 1 + 1) 3 #[.int .i64 (m : Int)] := by rw [hw9]; exact (blk_at (by simp)).alloc _
    have b4 : Blk W9 (W8.heap.size + 1 + 1 + 1) 22 #[.int .u64 (a : Int)] := by rw [hw9]; exact blk_at (by simp)
    have hz9 : W9.heap.size = W8.heap.size + 1 + 1 + 1 + 1 := by rw [hw9]; simp
    have hRs := hR.size
    have hrec : ∃ r, W9.heap[l2]? = some (.loop r) := by
      obtain ⟨r, hr⟩ := hr4
      have hl4 := (Array.getElem?_eq_some_iff.1 hr).1
      exact ⟨r, (hE.block _ (by omega)).trans ((hR.block _ hl4 (fun q => by have := (hPv _ q).2; omega) hol).trans hr)⟩
    clear hw9 xn hm8 x9
    replace hj := hJ _ _ _ _ hj (Stp.ext hE); replace hUx := hUx.ext hE; replace hy16 := hy16.ext hE; replace hB := hB.ext hE; replace hR := hR.trans (Rnd.ext hE)
    gi_wp2_with fail
    refine range_in (hgen W8.heap.size (W8.heap.size + 1) (W8.heap.size + 1 + 1) (W8.heap.size + 1 + 1 + 1)) hrec rfl (enters_of Tryd.func96 (by kernel_rfl) rfl) (fun W' h => UnW.ext ⟨hUx.e, b1, b2, b3, b4⟩ h) hUx.e.size Pv O2 (fun k h => ⟨(hPv k h).1, by have := (hPv k h).2; omega⟩)
      (fun k h => ?bx2) (fun k h => by have := (hob2 k h).2; omega) (fun _ => rfl)
      (fun q O' W' => J (U ++ (a, sp) :: q) O' W' ∧ UnW S B L d t (m + 1) b g1 g2 g3 g4 ws W' ∧ Blk W' W.heap.size 116 #[.func (.yield l) #[] #[]] ∧ (∀ k, k ∈ [g1, g2, g3, g4, W.heap.size] → O' ≠ some k) ∧ Rnd Pv O1 O' W4 W')
      (fun c q O' W' => c = .ret ∧ (∃ q, q <+: unL L (m + 1) t b ∧ Jx q O' W') ∧ Rnd Pv O1 O' W4 W')
      (fun s O' W' h => hO _ _ _ h.1) ?abd2 ?abx2 ⟨hj, hUx, hy16, hoff2, hR⟩ ?round2 ?done2 ?stop2
    case bx2 =>
      have hk : k = W8.heap.size ∨ k = W8.heap.size + 1 ∨ k = W8.heap.size + 1 + 1 ∨ k = W8.heap.size + 1 + 1 + 1 := by simpa using h
      exact ⟨by omega, fun q => by have := (hPv k q).2; omega, fun q => by have := (hob2 k q).2; omega⟩
    case abd2 =>
      rintro s O' W1 W' ⟨h1, h2, h3, h4, h5⟩ st
      exact ⟨hJ _ _ _ _ h1 (st.more (by omega)), h2.stp st (fun k hk => by have := hUl k hk; omega) (by omega), st.blk h3 (.inl (by omega)), h4, st.rnd h5 (by omega)⟩
    case abx2 =>
      rintro c s O' W1 W' ⟨h1, ⟨q, h2, h3⟩, h4⟩ st
      exact ⟨h1, ⟨q, h2, hJx _ _ _ _ h3 (st.more (by omega))⟩, st.rnd h4 (by omega)⟩
    case done2 =>
      rintro O' W' ⟨h1, h2, h3, h4, h5⟩
      have H := Lib.hid h1
      clear h1 hj
      gi_wp2
      exact ⟨O', h5, by rw [HF.out, hfl]; exact H.out, h2, h3, h4⟩
    case stop2 =>
      rintro c q O' W' hp ⟨rfl, hq, h5⟩
      have H := Lib.hid hq
      clear hq hj
      gi_wp2
      exact ⟨O', h5, rfl, H.out⟩
    case round2 =>
      rintro l3 q ⟨a2, s2⟩ post2 O3 W10 hl39 hx9 ⟨hj3, hU3, hy3, hoff3, hR3⟩ hlt3 hol3 hr3
      have hnx2 := hnx _ _ _ hx9
      simp only [encU]
      have k2 : Blk (W10.alloc (.cells #[.int .u64 0, .int .i64 0, .bool false, .bool false, .bool false, .bool false, .bool false, .bool false, .bool false, .bool false, .int .u64 0, .int .u64 0, .int .u64 0] 65)) W10.heap.size 65 #[.int .u64 0, .int .i64 0, .bool false, .bool false, .bool false, .bool false, .bool false, .bool false, .bool false, .bool false, .int .u64 0, .int .u64 0, .int .u64 0] := Blk.new W10 _ _
      have hX : Ext W10 ((W10.alloc (.cells #[.int .u64 0, .int .i64 0, .bool false, .bool false, .bool false, .bool false, .bool false, .bool false, .bool false, .bool false, .int .u64 0, .int .u64 0, .int .u64 0] 65)).setRow W10.heap.size (sptC s2)) := ((Ext.refl W10).alloc _).row (Nat.le_refl _) _
      clear hnx hj hUx hy16 hR hoff2 hgen b1 b2 b3 b4 hB hfl
      refine wpIn_seq (region_round (by rfl) (fun ⟨_, _, h⟩ => h) ?_)
      go_wp2
      refine region_round (by rfl) (fun ⟨_, _, h⟩ => h) ?_
      go_wp2_with (refine wpList_store_blk rfl 65 _ _ rfl rfl rfl k2 (spt_info _) (by simp [sptC_size]) (sptC_one _) ?_)
      refine ⟨hX, ?_⟩
      intro W11 st hr11 hk11
      have hB := blk_keep hk11 (k2.row (sptC s2))
      have hstW : Stp l3 O3 W10 W11 := (Stp.ext hX).trans st
      have hz10 := hstW.size
      replace hj3 := hJ _ _ _ _ hj3 (hstW.more (by omega))
      replace hU3 := hU3.stp hstW (fun k hk => by have := hUl k hk; omega) (by omega)
      replace hy3 := hstW.blk hy3 (.inl (by omega))
      replace hR3 := hstW.rnd hR3 (by omega)
      clear hr3 hX k2 hk11 st hstW hr11
      have hob3 := hO _ _ _ hj3
      have hRy : YieldAt Fence.wide 10 Tryd.prog l (encU (a2, s2)) W11 fun e W' => ∃ O', Rnd Pv O3 O' W11 W' ∧ ((e = .returned (.bool true) ∧ J (U ++ (a, sp) :: (q ++ [(a2, s2)])) O' W') ∨ (e = .returned (.bool false) ∧ ∃ q, q <+: unL L (m + 1) t b ∧ Jx q O' W')) := by
        obtain ⟨R, hR9⟩ := hnx2
        obtain ⟨fn, tmps, assign, body, hy, hRi⟩ := hY _ _ _ _ _ hR9 hj3
        refine ⟨fn, tmps, assign, body, hy, hRi.mono ?_⟩
        rintro e W' ⟨O', h1, ⟨h2, h3⟩ | ⟨h2, h3⟩⟩
        · exact ⟨O', h1, .inl ⟨h2, by simpa using h3⟩⟩
        · exact ⟨O', h1, .inr ⟨h2, _, ⟨R, by rw [hR9]; simp⟩, h3⟩⟩
      obtain ⟨fn, tmps, assign, body, hy, hRi⟩ := hRy
      simp only [encU] at hy
      have xy := hy3.cell 0
      clear hnx2 hx9
      gi_wp2_with (refine wpListIn_load_blk (fun _ => trivial) (by rfl) 65 _ rfl rfl hB Tryd.underlying65 rfl (by kernel_rfl) ?_)
      refine (round_any hRi).mono ?_
      rintro e W12 ⟨O4, hr, ⟨rfl, hj7⟩ | ⟨rfl, hj7⟩⟩
      rotate_left
      · have HJ := Lib.hid hj7
        clear hj7 hRi hy xy hj3
        gi_wp2
        exact ⟨O4, hr, rfl, HJ.out, hR3.trans hr⟩
      have hU4 := hU3.rnd hr hp4 (fun k hk => hoff3 k (by simp at hk ⊢; omega)) hP (fun k h => (hob3 k h).1)
      have hoff4 := off_rnd hr hoff3 (fun k hk => by have := hR3.size; simp at hk; have := hUl k; simp at this; omega)
      have hy4 := hr.blk hy3 hp16 (hoff3 _ (by simp))
      have hR4 := hR3.trans hr
      have HJ := Lib.hid hj7
      clear hj7 hRi hy xy hj3 hU3 hy3 hR3 hoff3
      gi_wp2
      exact ⟨O4, hr, HJ.out, hU4, hy4, hoff4, hR4⟩
/-- **under: the spots of a right tree, in order** -/
theorem tund_gen {S : Nat} {B : Option Addr} {L : List (Nat × Nat)} {d : Nat} {ws : World} (hM : Mem ws S B L d) (hZ : Siz ws) : ∀ n : Nat, n ≤ 2 → UnG S B L d ws n
  | 0, h => tund_step hM hZ 0 h fun m e => by cases e
  | n + 1, h => tund_step hM hZ (n + 1) h fun m e => by
    cases e
    exact tund_gen hM hZ n (by omega)
end Go.Proofs.YtcllbidhjggjiaaDoor
/- Package table: tree: the same iterator, which counts the links that it meets. -/
namespace Go.Proofs.YtcllbidhjggjiaaDoor
open Go.ChangeShapes Go.WideShapes Go.ChangeAt Go.RowKit
set_option linter.unusedVariables false
set_option linter.unusedSimpArgs false
set_option maxRecDepth 10000
attribute [local go_sem] Oper.semAt_some
section
variable {F : Fence} {n : Nat} {P : Program} {ops : Array Oper} {rest : List Oper} {o : Oper} {a : Act} {w : World} {Q : Exit → Act → World → Prop}
/-- a part of a known block loaded, in a round -/
theorem wpListIn_load_part {g k : Nat} {t : TypeId} {cs ds : Array Value} {d : TypeDesc} (hF : ∀ f, F.fn f) (hw : Region.wanted o (yielded ops a.tmps) = true) (ty : TypeId) (x : Operand) (ho : o.op = .load ty x)
    (hx : a.eval x = .pointer (some ⟨g, k, none⟩)) (hb : Blk w g t cs) (he : cs.extract k (k + ds.size) = ds) (hu : P.underlying ty = some d) (hd : d.isRow = true) (hi : (P.info? ty).map (·.size) = some ds.size)
    (h : wpListIn F n P ops Q rest (a.put o.dst (.agg ds)) w) : wpListIn F n P ops Q (o :: rest) a w :=
  wpListIn_step fun K hK => by
    rw [if_pos hw]
    refine ⟨fun f _ => hF f, ?_⟩
    rw [Oper.semAt_plain F _ _ (by rw [ho]; intro c e; cases e)]
    have hr : (execOp a.eval o).run P w = .ok (.value (.agg ds)) w := by
      unfold execOp
      simp only [ho, hx, Sem.run_bind, run_load_part ty hb he hu hd hi, Result.andThen_ok]
      rfl
    rw [hr]
    exact hK _ _ h
/-- one cell of a known block stored, in a round -/
theorem wpListIn_store_cell {g k : Nat} {t : TypeId} {cs es : Array Value} {v : Value} (hF : ∀ f, F.fn f) (hw : Region.wanted o (yielded ops a.tmps) = true) (ty : TypeId) (x y : Operand) (ho : o.op = .store ty x y)
    (hx : a.eval x = .pointer (some ⟨g, k, none⟩)) (hy : a.eval y = v) (hb : Blk w g t cs) (hn : k < cs.size) (he : cs.setIfInBounds k v = es) (hi : (P.info? ty).map (·.size) = some 1) (hv : v.cells = #[v]) (h1 : v.oneCell' = true)
    (h : wpListIn F n P ops Q rest (a.put o.dst undef) (w.setRow g es)) : wpListIn F n P ops Q (o :: rest) a w :=
  wpListIn_step fun K hK => by
    rw [if_pos hw]
    refine ⟨fun f _ => hF f, ?_⟩
    rw [Oper.semAt_plain F _ _ (by rw [ho]; intro c e; cases e)]
    have hr : (execOp a.eval o).run P w = .ok .skip (w.setRow g es) := by
      unfold execOp
      simp only [ho, hx, hy, Instr.storeAt, Instr.sureAddr, Sem.run_bind, Sem.run_pure, Result.andThen_ok, run_store_one ty hb hn he hi hv h1]
    rw [hr]
    exact hK _ _ h
end
/-- the maker of the iterator -/
theorem ttree_c (S : Nat) (B : Option Addr) (l d t n b : Nat) (w : World) :
    Calls Tryd.prog 48 #[.agg #[.int .u64 (S : Int), .slice B l d], .int .u64 (t : Int), .int .i64 (n : Int), .int .u64 (b : Int)] w fun e w' => e = .returned (.func (.func 74) #[] #[.pointer (some ⟨w.heap.size, 0, none⟩), .pointer (some ⟨w.heap.size + 1, 0, none⟩), .pointer (some ⟨w.heap.size + 1 + 1, 0, none⟩), .pointer (some ⟨w.heap.size + 1 + 1 + 1, 0, none⟩)]) ∧ w' = (((w.alloc (.cells #[.int .u64 (S : Int), .slice B l d] 25)).alloc (.cells #[.int .u64 (t : Int)] 22)).alloc (.cells #[.int .i64 (n : Int)] 3)).alloc (.cells #[.int .u64 (b : Int)] 22) := by
  go_enter Tryd.func48, Tryd.ntmps48
  go_wp2
  go_ret
  exact ⟨rfl, rfl⟩
attribute [local irreducible] World.setRow World.alloc Blk
theorem lnk_0 : lnk [] = [] := by unfold lnk; rfl
theorem lnk_snoc (q : List (Nat × Spt)) (y : Nat × Spt) : (lnk (q ++ [y])).length = (lnk q).length + (if linkB y.2.pt then 1 else 0) := by
  rw [lnk_app, List.length_append, lnk_cons]
  cases linkB y.2.pt <;> simp [lnk_0]
set_option maxHeartbeats 4000000 in
/-- **tree: the spots of a right tree, in order: it has fewer links than would end it** -/
theorem ttree_gen {S : Nat} {B : Option Addr} {L : List (Nat × Nat)} {d n t b : Nat} {g1 g2 g3 g4 : Nat} {ws : World} (hM : Mem ws S B L d) (hZ : Siz ws) (hn : n ≤ 2) (hT : TreeOk S L n t) (hbd : szN (n + 1) ∣ b) (hbl : b + szN (n + 1) ≤ szN 3) :
    Gen Tryd.prog 74 #[.pointer (some ⟨g1, 0, none⟩), .pointer (some ⟨g2, 0, none⟩), .pointer (some ⟨g3, 0, none⟩), .pointer (some ⟨g4, 0, none⟩)] encU (UnW S B L d t n b g1 g2 g3 g4 ws) ws.heap.size [g1, g2, g3, g4] (unL L n t b) := by
  intro l Pv J Jx O W hU hn0 hPv hbx hO hJ hJx hY h0
  have hb0 := hO _ _ _ h0
  have hUl := hU.lt
  have hgen := fun g1 g2 g3 g4 => tund_gen hM hZ n hn t b g1 g2 g3 g4 hT hbd hbl
  have hfew := fun {pre post} h => lnk_few (pre := pre) (post := post) (b := b) hT h
  have h16 : Blk ((W.alloc (.cells #[.func (.yield l) #[] #[]] 116)).alloc (.cells #[.int .i64 0] 3)) W.heap.size 116 #[.func (.yield l) #[] #[]] := (Blk.new W _ _).alloc _
  have h17 : Blk ((W.alloc (.cells #[.func (.yield l) #[] #[]] 116)).alloc (.cells #[.int .i64 0] 3)) (W.heap.size + 1) 3 #[.int .i64 0] := blk_at (by simp)
  have hE : Ext W ((W.alloc (.cells #[.func (.yield l) #[] #[]] 116)).alloc (.cells #[.int .i64 0] 3)) := ((Ext.refl W).alloc _).alloc _
  have hz1 : ((W.alloc (.cells #[.func (.yield l) #[] #[]] 116)).alloc (.cells #[.int .i64 0] 3)).heap.size = W.heap.size + 1 + 1 := by simp
  refine callsIn_of_wp_marks Tryd.func74 rfl trivial ?_ rfl
  simp only [Tryd.ntmps74, List.size_toArray, List.length_cons, List.length_nil, Nat.reduceAdd, Nat.reduceSub, Array.replicate_succ, Array.replicate_zero, List.push_toArray, List.append_toArray, List.nil_append, List.cons_append]
  have hU1 := hU.ext hE
  have h01 := hJ _ _ _ _ h0 (Stp.ext hE)
  have x2 := hU1.t.cell 0
  have x3 := hU1.n.cell 0
  have x4 := hU1.b.cell 0
  have hm1 := hU1.m
  gi_wp2_with (refine wpListIn_load_blk (fun _ => trivial) (by rfl) 25 _ rfl rfl hm1 Tryd.underlying25 rfl (by kernel_rfl) ?_)
  generalize (W.alloc (.cells #[.func (.yield l) #[] #[]] 116)).alloc (.cells #[.int .i64 0] 3) = W2 at *
  refine ⟨trivial, (callsIn_wide.2 (tund_c S B L.length d t n b W2)).mono ?_⟩
  rintro e W9 ⟨rfl, hw9⟩
  have hE2 : Ext W2 W9 := by rw [hw9]; exact ((((Ext.refl W2).alloc _).alloc _).alloc _).alloc _
  have b1 : Blk W9 W2.heap.size 25 #[.int .u64 (S : Int), .slice B L.length d] := by rw [hw9]; exact (((Blk.new W2 _ _).alloc _).alloc _).alloc _
  have b2 : Blk W9 (W2.heap.size + 1) 22 #[.int .u64 (t : Int)] := by rw [hw9]; exact ((blk_at (by simp)).alloc _).alloc _
  have b3 : Blk W9 (W2.heap.size + 1 + 1) 3 #[.int .i64 (n : Int)] := by rw [hw9]; exact (blk_at (by simp)).alloc _
  have b4 : Blk W9 (W2.heap.size + 1 + 1 + 1) 22 #[.int .u64 (b : Int)] := by rw [hw9]; exact blk_at (by simp)
  have hz9 : W9.heap.size = W2.heap.size + 1 + 1 + 1 + 1 := by rw [hw9]; simp
  have h16b := h16.ext hE2
  have h17b := h17.ext hE2
  have h09 := hJ _ _ _ _ h01 (Stp.ext hE2)
  have hE9 := hU1.e.trans hE2
  clear hw9 x2 x3 x4 hm1 h16 h17 h0 h01 hU1 hU
  rw [hz1] at b1 b2 b3 b4 hz9 ⊢
  gi_wp2_with fail
  have hP2 : ∀ k, Pv k → ws.heap.size ≤ k ∧ k < W.heap.size := hPv
  have hpb : ∀ k, W.heap.size ≤ k → ¬ Pv k := fun k h q => by have := (hPv k q).2; omega
  have hobn : ∀ k, W.heap.size ≤ k → O ≠ some k := fun k h q => by have := (hb0 k q).2; omega
  refine range_out (hgen (W.heap.size + 1 + 1) ((W.heap.size + 1 + 1) + 1) ((W.heap.size + 1 + 1) + 1 + 1) ((W.heap.size + 1 + 1) + 1 + 1 + 1)) rfl (enters_of Tryd.func96 (by kernel_rfl) rfl) (fun W' h => UnW.ext ⟨hE9, b1, b2, b3, b4⟩ h) hE9.size (fun k => Pv k ∨ k = W.heap.size + 1) O (fun k h => by rcases h with h | rfl; exact ⟨(hPv k h).1, by have := (hPv k h).2; omega⟩; exact ⟨by omega, by omega⟩)
    (fun k h => ?bx) (fun k h => by have := (hb0 k h).2; omega) (fun _ => rfl)
    (fun q O' W' => J q O' W' ∧ Blk W' W.heap.size 116 #[.func (.yield l) #[] #[]] ∧ Blk W' (W.heap.size + 1) 3 #[.int .i64 ((lnk q).length : Int)] ∧ O' ≠ some W.heap.size ∧ O' ≠ some (W.heap.size + 1) ∧ Ext ws W')
    (fun c q O' W' => c = .ret ∧ ∃ q, q <+: unL L n t b ∧ Jx q O' W')
    (fun s O' W' h => hO _ _ _ h.1) ?abd (fun c s O' W1 W' h st => ⟨h.1, h.2.choose, h.2.choose_spec.1, hJx _ _ _ _ h.2.choose_spec.2 (st.more (by omega))⟩) ⟨h09, h16b, by rw [lnk_0]; exact h17b, hobn _ (by omega), hobn _ (by omega), hE9⟩ ?round ?done ?stop
  case bx =>
    have hk : k = (W.heap.size + 1 + 1) ∨ k = (W.heap.size + 1 + 1) + 1 ∨ k = (W.heap.size + 1 + 1) + 1 + 1 ∨ k = (W.heap.size + 1 + 1) + 1 + 1 + 1 := by simpa using h
    exact ⟨by omega, fun q => by rcases q with q | q; exact hpb k (by omega) q; omega, hobn k (by omega)⟩
  case abd =>
    rintro s O' W1 W' ⟨h1, h2, h3, h4, h5, h6⟩ st
    exact ⟨hJ _ _ _ _ h1 (st.more (by omega)), st.blk h2 (.inl (by omega)), st.blk h3 (.inl (by omega)), h4, h5, Below.trans h6 (st.below (by omega) h6.size)⟩
  case done =>
    rintro D O' W' hD hDO ⟨h1, -⟩ hK
    gi_wp2
    refine ⟨by simp, .inl ⟨_, _, rfl, run_takeDeferred hK, ?_⟩⟩
    exact ⟨_, results_none rfl _ _ _, ⟨_, rfl⟩, .inl ⟨O', hJ _ _ _ _ h1 (Stp.put _ (by omega) hDO _)⟩⟩
  case stop =>
    rintro D c pre O' W' hD hDO hp ⟨rfl, q, hq, h1⟩ hK
    gi_wp2
    refine ⟨by simp, .inl ⟨_, _, rfl, run_takeDeferred hK, ?_⟩⟩
    exact ⟨_, results_none rfl _ _ _, ⟨_, rfl⟩, .inr ⟨q, O', hq, hJx _ _ _ _ h1 (Stp.put _ (by omega) hDO _)⟩⟩
  case round =>
    rintro l3 q ⟨a2, s2⟩ post O3 W3 hl3 hx3 ⟨hj, hy16, hlk, ho1, ho2, hE3⟩ hlt hol hr3
    have hcnt := hfew (pre := q ++ [(a2, s2)]) (post := post) (by rw [hx3]; simp)
    rw [lnk_snoc] at hcnt
    have hsn := lnk_snoc q (a2, s2)
    have cl := fun W => link_c s2.pt W
    simp only [encU]
    simp only at hcnt hsn
    have k2 : Blk (W3.alloc (.cells #[.int .u64 0, .int .i64 0, .bool false, .bool false, .bool false, .bool false, .bool false, .bool false, .bool false, .bool false, .int .u64 0, .int .u64 0, .int .u64 0] 65)) W3.heap.size 65 #[.int .u64 0, .int .i64 0, .bool false, .bool false, .bool false, .bool false, .bool false, .bool false, .bool false, .bool false, .int .u64 0, .int .u64 0, .int .u64 0] := Blk.new W3 _ _
    have hX : Ext W3 ((W3.alloc (.cells #[.int .u64 0, .int .i64 0, .bool false, .bool false, .bool false, .bool false, .bool false, .bool false, .bool false, .bool false, .int .u64 0, .int .u64 0, .int .u64 0] 65)).setRow W3.heap.size (sptC s2)) := ((Ext.refl W3).alloc _).row (Nat.le_refl _) _
    refine wpIn_seq (region_round (by rfl) (fun ⟨_, _, h⟩ => h) ?_)
    go_wp2
    refine region_round (by rfl) (fun ⟨_, _, h⟩ => h) ?_
    go_wp2_with (refine wpList_store_blk rfl 65 _ _ rfl rfl rfl k2 (spt_info _) (by simp [sptC_size]) (sptC_one _) ?_)
    refine ⟨hX, ?_⟩
    intro W4 st hr4 hk4
    have hB := blk_keep hk4 (k2.row (sptC s2))
    have hstW : Stp l3 O3 W3 W4 := (Stp.ext hX).trans st
    have hz10 := hstW.size
    replace hj := hJ _ _ _ _ hj (hstW.more (by omega))
    replace hy16 := hstW.blk hy16 (.inl (by omega))
    replace hlk := hstW.blk hlk (.inl (by omega))
    replace hE3 := Below.trans hE3 (hstW.below (show ws.heap.size ≤ l3 by omega) (by omega))
    clear hr3 hX k2 hk4 st hstW hr4
    have hob3 := hO _ _ _ hj
    have hRy : ∀ W5, J q O3 W5 → YieldAt Fence.wide 10 Tryd.prog l (encU (a2, s2)) W5 fun e W' => ∃ O', Rnd Pv O3 O' W5 W' ∧ ((e = .returned (.bool true) ∧ J (q ++ [(a2, s2)]) O' W') ∨ (e = .returned (.bool false) ∧ ∃ q, q <+: unL L n t b ∧ Jx q O' W')) := fun W5 hj5 => by
      obtain ⟨fn, tmps, assign, body, hy, hRi⟩ := hY _ _ _ _ _ hx3 hj5
      refine ⟨fn, tmps, assign, body, hy, hRi.mono ?_⟩
      rintro e W' ⟨O', h1, ⟨h2, h3⟩ | ⟨h2, h3⟩⟩
      · exact ⟨O', h1, .inl ⟨h2, h3⟩⟩
      · exact ⟨O', h1, .inr ⟨h2, _, ⟨post, by rw [hx3]; simp⟩, h3⟩⟩
    gi_wp2_with (refine wpListIn_load_part (fun _ => trivial) (by rfl) 53 _ rfl rfl hB (sptC_pt s2) Tryd.underlying53 rfl (pt_info _) ?_)
    refine ⟨trivial, (CallsIn.inRound l3 (callsIn_wide.2 (cl _))).mono ?_⟩
    rintro e W5 ⟨rfl, hE⟩
    have hR : Rnd (fun k => Pv k ∨ k = W.heap.size + 1) O3 O3 W4 W5 := Rnd.ext hE
    replace hj := hJ _ _ _ _ hj (Stp.ext hE)
    replace hy16 := hy16.ext hE
    replace hlk := hlk.ext hE
    replace hB := hB.ext hE
    replace hE3 := Below.trans hE3 (Below.mono hE (show ws.heap.size ≤ _ from hE3.size))
    clear hE cl
    have HSN := Lib.hid hsn
    clear hsn hfew hgen h16b h17b h09 b1 b2 b3 b4
    obtain ⟨c, hc⟩ : ∃ c, (lnk q).length = c := ⟨_, rfl⟩
    rw [hc] at hcnt hlk HSN
    clear hc
    have hxP : ¬ Pv (W.heap.size + 1) := hpb _ (by omega)
    have hyP : ¬ Pv W.heap.size := hpb _ (by omega)
    cases hk : linkB s2.pt
    · rw [hk] at hcnt HSN
      simp only [Bool.false_eq_true, if_false, Nat.add_zero] at hcnt HSN
      obtain ⟨fn, tmps, assign, body, hy, hRi⟩ := hRy _ hj
      simp only [encU] at hy
      have xy := hy16.cell 0
      have xl := hlk.cell 0
      have hdc : ((c : Int) == 64) = false := by simp; omega
      clear hRy
      gi_wp2_with (refine wpListIn_load_blk (fun _ => trivial) (by rfl) 65 _ rfl rfl hB Tryd.underlying65 rfl (by kernel_rfl) ?_)
      refine (round_any hRi).mono ?_
      rintro e W7 ⟨O4, hr, ⟨rfl, hj7⟩ | ⟨rfl, hj7⟩⟩
      rotate_left
      · have HJ := Lib.hid hj7
        have hR9 := hR.trans (hr.more fun k h => .inl h)
        clear hj7 hRi hy xy xl hj
        gi_wp2
        exact ⟨O4, hR9, rfl, HJ.out⟩
      have hy9 := hr.blk hy16 hyP ho1
      have hl9 := hr.blk hlk hxP ho2
      have ho19 := hr.off hy16.lt ho1
      have ho29 := hr.off hlk.lt ho2
      have hE99 := Below.trans hE3 (hr.below hE3.size (fun k h => (hPv k h).1) fun k h => (hob3 k h).1)
      have hR9 := hR.trans (hr.more fun k h => .inl h)
      have HJ := Lib.hid hj7
      clear hj7 hRi hy xy xl hj hR
      gi_wp2
      exact ⟨O4, hR9, HJ.out, hy9, by rw [HSN.out]; exact hl9, ho19, ho29, hE99⟩
    · rw [hk] at hcnt HSN
      simp only [if_true] at hcnt HSN
      have xl := hlk.cell 0
      obtain ⟨c1, hc1⟩ : ∃ c1, c + 1 = c1 := ⟨_, rfl⟩
      have hw1 : IntKind.i64.wrap ((c : Int) + 1) = (c1 : Int) := by rw [IntKind.wrap_i64]; omega
      rw [hc1] at HSN
      have hj6 := hJ _ _ _ _ hj (Stp.row _ (show W.heap.size ≤ W.heap.size + 1 by omega) ho2 #[.int .i64 (c1 : Int)])
      have hy6 := hy16.apart (show W.heap.size ≠ W.heap.size + 1 by omega) #[.int .i64 (c1 : Int)]
      have hlk6 := hlk.row #[.int .i64 (c1 : Int)]
      have hB6 := hB.apart (show W3.heap.size ≠ W.heap.size + 1 by omega) #[.int .i64 (c1 : Int)]
      have hE6 := Below.trans hE3 ((Stp.row (O := O3) W5 (show W.heap.size ≤ W.heap.size + 1 by omega) ho2 #[.int .i64 (c1 : Int)]).below (show ws.heap.size ≤ W.heap.size by omega) hE3.size)
      have hR6 := hR.trans (Rnd.row W5 (.inr rfl) #[.int .i64 (c1 : Int)])
      obtain ⟨fn, tmps, assign, body, hy, hRi⟩ := hRy _ hj6
      simp only [encU] at hy
      have xy6 := hy6.cell 0
      have xl6 := hlk6.cell 0
      have hdc : ((c1 : Int) == 64) = false := by simp; omega
      clear hRy hc1
      gi_wp2_with (first | (refine wpListIn_store_cell (es := #[.int .i64 (c1 : Int)]) (fun _ => trivial) (by rfl) 3 _ _ rfl rfl rfl hlk (by simp) (by rfl) (by kernel_rfl) rfl rfl ?_) | (refine wpListIn_load_blk (fun _ => trivial) (by rfl) 65 _ rfl rfl hB6 Tryd.underlying65 rfl (by kernel_rfl) ?_))
      clear hj hy16 hlk hB hE3 hR xl
      have hj := hj6
      have hy16 := hy6
      have hlk := hlk6
      have hB := hB6
      have hE3 := hE6
      have hR := hR6
      have xy := xy6
      have xl := xl6
      clear hj6 hy6 hlk6 hB6 hE6 hR6 xy6 xl6 hw1 hdc
      generalize W5.setRow (W.heap.size + 1) #[.int .i64 (c1 : Int)] = W6 at *
      refine (round_any hRi).mono ?_
      rintro e W7 ⟨O4, hr, ⟨rfl, hj7⟩ | ⟨rfl, hj7⟩⟩
      rotate_left
      · have HJ := Lib.hid hj7
        have hR9 := hR.trans (hr.more fun k h => .inl h)
        clear hj7 hRi hy xy xl hj
        gi_wp2
        exact ⟨O4, hR9, rfl, HJ.out⟩
      have hy9 := hr.blk hy16 hyP ho1
      have hl9 := hr.blk hlk hxP ho2
      have ho19 := hr.off hy16.lt ho1
      have ho29 := hr.off hlk.lt ho2
      have hE99 := Below.trans hE3 (hr.below hE3.size (fun k h => (hPv k h).1) fun k h => (hob3 k h).1)
      have hR9 := hR.trans (hr.more fun k h => .inl h)
      have HJ := Lib.hid hj7
      clear hj7 hRi hy xy xl hj hR
      gi_wp2
      exact ⟨O4, hR9, HJ.out, hy9, by rw [HSN.out]; exact hl9, ho19, ho29, hE99⟩
end Go.Proofs.YtcllbidhjggjiaaDoor
