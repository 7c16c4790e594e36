/- Entries of the buffer as plain numbers: what may be, what is covered, matched, led, and when two are over one another. -/
import Derived.Test.YtlhoedpencmikaaGreatDoorMfive
import Derived.Test.YtlhoedpencmikaaGreatDoorGst
import Derived.Test.YtlhoedpencmikaaGreatDoorMsix
import Derived.Test.YtlhoedpencmikaaGreatDoorGpte
import Derived.Test.YtlhoedpencmikaaGreatDoorCfive
import Derived.Test.YtlhoedpencmikaaGreatDoorGagg
namespace Go.Proofs.YtlhoedpencmikaaGreatDoor
set_option linter.unusedVariables false

def pagI (l : Int) : Int := sizI l / 4096
def nbI (a l : Int) : Int := numI (basI a l)
def e0 : En := ⟨false, 0, false, 0, 0, 0, ⟨false, false, false, false⟩, false⟩
def mayE (e : En) : Bool := if e.v then decide (0 ≤ e.l ∧ e.l ≤ 2 ∧ e.vp < 134217728 ∧ e.pp < 17592186044416 ∧ e.n < 65536 ∧ (e.vp : Int) % pagI e.l = 0 ∧ (e.pp : Int) % pagI e.l = 0) else decide (e = e0)
def upE (e : En) (n vp pp : Nat) : En := { e with n := n, vp := vp, pp := pp }
theorem upE_n (e : En) (n vp pp : Nat) : (upE e n vp pp).n = n := rfl
theorem upE_vp (e : En) (n vp pp : Nat) : (upE e n vp pp).vp = vp := rfl
theorem upE_pp (e : En) (n vp pp : Nat) : (upE e n vp pp).pp = pp := rfl
theorem upE_same {e : En} {n vp pp : Nat} (h1 : e.n = n) (h2 : e.vp = vp) (h3 : e.pp = pp) : e = upE e n vp pp := by
  subst h1 h2 h3; rfl
def trimE (e : En) : En := if e.v = true ∧ 0 ≤ e.l ∧ e.l ≤ 2 then upE e (e.n % 65536) (nbI (ofI e.vp) e.l).toNat ((e.pp : Int) % 17592186044416 - (e.pp : Int) % 17592186044416 % pagI e.l).toNat else e0
def covE (e : En) (a : Int) : Bool := e.v && (vaB a && ((e.vp : Int) == nbI a e.l))
def matE (e : En) (n a : Int) : Bool := covE e a && (e.g || ((e.n : Int) == n))
def phyE (e : En) (a : Int) : Int := (e.pp : Int) * 4096 + offI a e.l
def ofE (l : Lf) (a n : Nat) : En := ⟨true, n, l.pt.g, l.lv, (nbI a l.lv).toNat, l.pt.pp, permP l.pt, l.pt.d⟩
def leafE (l : Lf) : Bool := decide (0 ≤ l.lv ∧ l.lv ≤ 2 ∧ l.pt.pp < 17592186044416 ∧ (l.pt.pp : Int) % pagI l.lv = 0)

theorem pag0 : pagI 0 = 1 := by unfold pagI; rw [siz0]; decide
theorem pag1 : pagI 1 = 512 := by unfold pagI; rw [siz1]; decide
theorem pag2 : pagI 2 = 262144 := by unfold pagI; rw [siz2]; decide
theorem pag_is {l : Int} (l0 : 0 ≤ l) (l2 : l ≤ 2) : (l = 0 ∧ pagI l = 1) ∨ (l = 1 ∧ pagI l = 512) ∨ (l = 2 ∧ pagI l = 262144) := by
  rcases level_lt l0 l2 with rfl | rfl | rfl
  · exact .inl ⟨rfl, pag0⟩
  · exact .inr (.inl ⟨rfl, pag1⟩)
  · exact .inr (.inr ⟨rfl, pag2⟩)
/-- the page number of an address' base -/
theorem nb_eq {a l : Int} (l0 : 0 ≤ l) (l2 : l ≤ 2) : nbI a l = numI a - numI a % pagI l := by
  rcases level_lt l0 l2 with rfl | rfl | rfl
  · rw [pag0]; unfold nbI basI numI; rw [siz0]; omega
  · rw [pag1]; unfold nbI basI numI; rw [siz1]; omega
  · rw [pag2]; unfold nbI basI numI; rw [siz2]; omega
theorem nb_lt (a l : Int) : 0 ≤ nbI a l ∧ nbI a l < 134217728 := num_lt _
theorem num_of {n : Int} : numI (ofI n) = n % 134217728 := by
  unfold numI ofI; split <;> omega
theorem of_va (n : Int) : vaB (ofI n) = true := by
  unfold vaB ofI
  rw [Bool.or_eq_true, decide_eq_true_iff, decide_eq_true_iff]
  split <;> omega
theorem nb_mod {a l : Int} (l0 : 0 ≤ l) (l2 : l ≤ 2) : nbI a l % pagI l = 0 := by
  rw [nb_eq l0 l2]
  rcases pag_is l0 l2 with ⟨_, h⟩ | ⟨_, h⟩ | ⟨_, h⟩ <;> rw [h] <;> omega
/-- what holds of an entry that may be and is Valid -/
structure MayV (e : En) : Prop where
  l0 : 0 ≤ e.l
  l2 : e.l ≤ 2
  vp : e.vp < 134217728
  pp : e.pp < 17592186044416
  n : e.n < 65536
  vm : (e.vp : Int) % pagI e.l = 0
  pm : (e.pp : Int) % pagI e.l = 0
theorem may_v {e : En} (h : mayE e = true) (hv : e.v = true) : MayV e := by
  unfold mayE at h
  rw [if_pos hv, decide_eq_true_iff] at h
  obtain ⟨h1, h2, h3, h4, h5, h6, h7⟩ := h
  exact ⟨h1, h2, h3, h4, h5, h6, h7⟩
theorem v_may {e : En} (h : MayV e) (hv : e.v = true) : mayE e = true := by
  unfold mayE
  rw [if_pos hv, decide_eq_true_iff]
  exact ⟨h.l0, h.l2, h.vp, h.pp, h.n, h.vm, h.pm⟩
theorem may_n {e : En} (h : mayE e = true) (hv : e.v = false) : e = e0 := by
  unfold mayE at h
  rw [if_neg (by simp [hv]), decide_eq_true_iff] at h
  exact h
theorem may_lt {e : En} (h : mayE e = true) : e.vp < 134217728 ∧ e.pp < 17592186044416 ∧ e.n < 65536 := by
  cases hv : e.v
  · rw [may_n h hv]; decide
  · exact ⟨(may_v h hv).vp, (may_v h hv).pp, (may_v h hv).n⟩
theorem trim_pos {e : En} (hv : e.v = true) (l0 : 0 ≤ e.l) (l2 : e.l ≤ 2) : trimE e = upE e (e.n % 65536) (nbI (ofI e.vp) e.l).toNat ((e.pp : Int) % 17592186044416 - (e.pp : Int) % 17592186044416 % pagI e.l).toNat := by
  unfold trimE; rw [if_pos ⟨hv, l0, l2⟩]
theorem trim_neg {e : En} (h : ¬ (e.v = true ∧ 0 ≤ e.l ∧ e.l ≤ 2)) : trimE e = e0 := by
  unfold trimE; rw [if_neg h]
theorem may_eq (e : En) : decide (e = trimE e) = mayE e := by
  rw [Bool.eq_iff_iff, decide_eq_true_iff]
  by_cases h : e.v = true ∧ 0 ≤ e.l ∧ e.l ≤ 2
  · obtain ⟨hv, l0, l2⟩ := h
    rw [trim_pos hv l0 l2]
    have hn := nb_eq (a := ofI e.vp) l0 l2
    rw [num_of] at hn
    constructor
    · intro h
      have h1 := (congrArg En.n h).trans (upE_n _ _ _ _)
      have h2 := (congrArg En.vp h).trans (upE_vp _ _ _ _)
      have h3 := (congrArg En.pp h).trans (upE_pp _ _ _ _)
      clear h
      have h5 := nb_lt (ofI e.vp) e.l
      refine v_may ⟨l0, l2, ?_, ?_, ?_, ?_, ?_⟩ hv
      · omega
      · rcases pag_is l0 l2 with ⟨_, h⟩ | ⟨_, h⟩ | ⟨_, h⟩ <;> rw [h] at h3 <;> omega
      · omega
      · rcases pag_is l0 l2 with ⟨_, h⟩ | ⟨_, h⟩ | ⟨_, h⟩ <;> rw [h] at hn ⊢ <;> omega
      · rcases pag_is l0 l2 with ⟨_, h⟩ | ⟨_, h⟩ | ⟨_, h⟩ <;> rw [h] at h3 ⊢ <;> omega
    · intro h
      have k := may_v h hv
      have k1 := k.vp
      have k2 := k.pp
      have k3 := k.n
      have k4 := k.vm
      have k5 := k.pm
      refine upE_same ?_ ?_ ?_
      · omega
      · have hq : nbI (ofI e.vp) e.l = e.vp := by
          have hm : (e.vp : Int) % 134217728 = e.vp := by omega
          rw [hn, hm, k4]
          omega
        rw [hq, Int.toNat_natCast]
      · have hq : (e.pp : Int) % 17592186044416 = e.pp := by omega
        rw [hq, k5]
        omega
  · rw [trim_neg h]
    cases hv : e.v
    · unfold mayE; rw [if_neg (by simp [hv]), decide_eq_true_iff]
    · constructor
      · intro he; rw [he] at hv; cases hv
      · intro hm; exact absurd ⟨hv, (may_v hm hv).l0, (may_v hm hv).l2⟩ h

theorem of_ref {l : Lf} (h : leafE l = true) (a n : Nat) : ((nbI a l.lv).toNat : Int) = numI a - numI a % pagI l.lv := by
  unfold leafE at h
  rw [decide_eq_true_iff] at h
  rw [← nb_eq h.1 h.2.1]
  have := nb_lt a l.lv
  omega
structure LeafV (l : Lf) : Prop where
  l0 : 0 ≤ l.lv
  l2 : l.lv ≤ 2
  pp : l.pt.pp < 17592186044416
  pm : (l.pt.pp : Int) % pagI l.lv = 0
theorem leaf_v {l : Lf} (h : leafE l = true) : LeafV l := by
  unfold leafE at h
  rw [decide_eq_true_iff] at h
  exact ⟨h.1, h.2.1, h.2.2.1, h.2.2.2⟩

/-! what follows -/
theorem ofE_v (l : Lf) (a n : Nat) : (ofE l a n).v = true ∧ (ofE l a n).l = l.lv ∧ (ofE l a n).pp = l.pt.pp ∧ (ofE l a n).n = n ∧ (ofE l a n).g = l.pt.g ∧ ((ofE l a n).vp : Int) = nbI a l.lv := by
  refine ⟨rfl, rfl, rfl, rfl, rfl, ?_⟩
  have := nb_lt a l.lv
  show ((nbI a l.lv).toNat : Int) = _
  omega
theorem ofE_may {l : Lf} (h : leafE l = true) (a : Nat) {n : Nat} (hn : n < 65536) : mayE (ofE l a n) = true := by
  have k := leaf_v h
  obtain ⟨h1, h2, h3, h4, h5, h6⟩ := ofE_v l a n
  have := nb_lt a l.lv
  refine v_may ⟨?_, ?_, ?_, ?_, ?_, ?_, ?_⟩ h1
  · rw [h2]; exact k.l0
  · rw [h2]; exact k.l2
  · omega
  · rw [h3]; exact k.pp
  · rw [h4]; exact hn
  · rw [h6, h2]; exact nb_mod k.l0 k.l2
  · rw [h3, h2]; exact k.pm
theorem bas_iff {a b l : Int} (l0 : 0 ≤ l) (l2 : l ≤ 2) (a0 : 0 ≤ a) (a1 : a < 18446744073709551616) (b0 : 0 ≤ b) (b1 : b < 18446744073709551616) (ha : vaB a = true) (hb : vaB b = true) : (nbI a l == nbI b l) = (basI a l == basI b l) := by
  unfold vaB at ha hb
  rw [Bool.or_eq_true, decide_eq_true_iff, decide_eq_true_iff] at ha hb
  rw [Bool.eq_iff_iff, beq_iff_eq, beq_iff_eq]
  unfold nbI numI basI
  rcases level_lt l0 l2 with rfl | rfl | rfl
  · rw [siz0]; omega
  · rw [siz1]; omega
  · rw [siz2]; omega
theorem ofE_cov {l : Lf} (h : leafE l = true) {a b : Nat} (n : Nat) (a1 : a < 18446744073709551616) (b1 : b < 18446744073709551616) (ha : vaB a = true) (hb : vaB b = true) : covE (ofE l a n) b = (basI a l.lv == basI b l.lv) := by
  have k := leaf_v h
  obtain ⟨h1, h2, h3, h4, h5, h6⟩ := ofE_v l a n
  unfold covE
  rw [h1, h2, h6, hb, bas_iff k.l0 k.l2 (by omega) (by omega) (by omega) (by omega) ha hb]
  simp
theorem ofE_cova {l : Lf} (h : leafE l = true) {a : Nat} (n : Nat) (a1 : a < 18446744073709551616) (ha : vaB a = true) : covE (ofE l a n) a = true := by
  rw [ofE_cov h n a1 a1 ha ha]; simp
theorem ofE_phy (l : Lf) (a n : Nat) (b : Int) : phyE (ofE l a n) b = (l.pt.pp : Int) * 4096 + offI b l.lv := by
  obtain ⟨h1, h2, h3, h4, h5, h6⟩ := ofE_v l a n
  unfold phyE
  rw [h2, h3]
theorem pag_pos {l : Int} (l0 : 0 ≤ l) (l2 : l ≤ 2) : 1 ≤ pagI l ∧ pagI l ≤ 262144 := by
  rcases pag_is l0 l2 with ⟨_, h⟩ | ⟨_, h⟩ | ⟨_, h⟩ <;> omega
attribute [irreducible] upE pagI nbI mayE trimE covE matE phyE ofE leafE e0

end Go.Proofs.YtlhoedpencmikaaGreatDoor
/- Package entry: number, Covers, Matches, Physical, Over. -/
namespace Go.Proofs.YtlhoedpencmikaaGreatDoor
open Go.ChangeShapes Go.WideShapes Go.ChangeAt Go.RowKit
set_option linter.unusedVariables false
set_option linter.unusedSimpArgs false
set_option maxRecDepth 10000

theorem nbI_eq (a l : Int) : numI (basI a l) = nbI a l := by unfold nbI; rfl
theorem number12_c (a l : Int) (a0 : 0 ≤ a) (a1 : a < 18446744073709551616) (l0 : 0 ≤ l) (l2 : l ≤ 2) (w : World) (hT : Siz w) :
    Calls Tryz.prog 58 #[.int .u64 a, .int .i64 l] w fun e w' => e = .returned (.int .u64 (nbI a l)) ∧ w = w' := by
  obtain ⟨b0, b1⟩ := bas_lt (l := l) a0
  have H := Lib.hid (nbI_eq a l)
  go_enter Tryz.func58, Tryz.ntmps58
  go_wp2_with first | (go_at_call 104; refine (base5_c _ _ (by omega) (by omega) (by omega) (by omega) _ (by assumption)).mono ?_; rintro e w' ⟨rfl, rfl⟩) | (go_at_call 103; refine (number5_c _ (by omega) (by omega) _).mono ?_; rintro e w' ⟨rfl, rfl⟩)
  go_ret
  exact ⟨congrArg (fun b => Ending.returned (.int .u64 b)) H.out, rfl⟩

theorem covE_eq (e : En) (a : Int) : covE e a = (e.v && (vaB a && ((e.vp : Int) == nbI a e.l))) := by unfold covE; rfl
theorem covers_c (e : En) (he : e.v = true → 0 ≤ e.l ∧ e.l ≤ 2) (a : Int) (a0 : 0 ≤ a) (a1 : a < 18446744073709551616) (w : World) (hT : Siz w) :
    Calls Tryz.prog 160 #[.agg (enC e), .int .u64 a] w fun r w' => r = .returned (.bool (covE e a)) ∧ Ext w w' := by
  have h1 := Blk.new w 66 (enC e)
  have HE := Lib.hid ((Ext.refl w).alloc (.cells (enC e) 66))
  have HT := Lib.hid (hT.ext HE.out)
  clear hT
  rw [covE_eq]
  cases hv : e.v
  · skip
    go_enter Tryz.func160, Tryz.ntmps160
    go_wp2_with fail
    replace h1 := Blk.drew h1; replace HE := Lib.hid HE.out.drew
    replace HT := Lib.hid (HT.out.ext (Ext.refl _).drew)
    refine wp_region_seq [(0, false), (1, false), (2, false), (3, false), (4, true), (5, false), (6, false), (7, false), (8, false), (9, false), (10, false), (11, false), (12, true), (13, false), (14, false), (15, false)] Ext (by kernel_rfl) (by kernel_rfl) Ext.refl (fun _ _ _ => Ext.trans) ?_; simp only [List.map, nth_z, nth_s]
    (repeat ((refine seq_read (by rfl) (by rfl) ?_; intro K hK; go_big_quiet_op; (refine ⟨_, fun _ _ => rfl, ?_⟩; go_big_quiet_on))))
    refine seq_value (.bool e.v) (by rfl) (fun x hx => by have hq := ext_cell hx (h1.en_v); simp [go_sem, execOp, Act.eval, hq]) ?_; intro K hK; simp only [Act.put, List.setIfInBounds_toArray, List.set_cons_zero, List.set_cons_succ]; refine hK _ ?_; clear hK K
    rw [hv]
    (repeat (first | (refine seq_skip (by rfl) ?_; intro K hK; simp only [Act.put, List.setIfInBounds_toArray, List.set_cons_zero, List.set_cons_succ]; refine hK _ ?_; clear hK K) | (refine seq_skipc (by rfl) ?_; intro K hK; simp only [Act.put, List.setIfInBounds_toArray, List.set_cons_zero, List.set_cons_succ]; refine hK _ ?_; clear hK K) | (refine seq_read (by rfl) (by rfl) ?_; intro K hK; go_big_quiet_op; first | go_big_quiet_on | (refine ⟨_, fun _ _ => rfl, ?_⟩; go_big_quiet_on))))
    refine seq_done ?_
    go_wp2
    go_ret
    exact ⟨rfl, HE.out⟩
  · obtain ⟨l0, l2⟩ := he hv
    have his := fun w => is5_c a a0 a1 w
    cases ha : vaB a
    · rw [ha] at his
      go_enter Tryz.func160, Tryz.ntmps160
      go_wp2_with fail
      replace h1 := Blk.drew h1; replace HE := Lib.hid HE.out.drew
      replace HT := Lib.hid (HT.out.ext (Ext.refl _).drew)
      refine wp_region_seq [(0, false), (1, false), (2, false), (3, false), (4, true), (5, false), (6, false), (7, false), (8, false), (9, false), (10, false), (11, false), (12, true), (13, false), (14, false), (15, false)] Ext (by kernel_rfl) (by kernel_rfl) Ext.refl (fun _ _ _ => Ext.trans) ?_; simp only [List.map, nth_z, nth_s]
      (repeat ((refine seq_read (by rfl) (by rfl) ?_; intro K hK; go_big_quiet_op; (refine ⟨_, fun _ _ => rfl, ?_⟩; go_big_quiet_on))))
      refine seq_value (.bool e.v) (by rfl) (fun x hx => by have hq := ext_cell hx (h1.en_v); simp [go_sem, execOp, Act.eval, hq]) ?_; intro K hK; simp only [Act.put, List.setIfInBounds_toArray, List.set_cons_zero, List.set_cons_succ]; refine hK _ ?_; clear hK K
      rw [hv]
      (repeat ((refine seq_read (by rfl) (by rfl) ?_; intro K hK; go_big_quiet_op; (go_big_quiet_on))))
      refine seq_call (calls_ext (his _)) rfl Tryz.func79 (by kernel_rfl) (by kernel_rfl) (by rfl) (by rfl) ?_; intro K hK; rintro e w' ⟨rfl, hE⟩; refine ⟨_, rfl, hE, ?_⟩; simp only [Act.put, List.setIfInBounds_toArray, List.set_cons_zero, List.set_cons_succ]; refine hK _ _ ?_; clear hK K; replace h1 := h1.ext hE; replace HT := Lib.hid (HT.out.ext hE); (replace HE := Lib.hid (HE.out.trans hE))
      clear hE
      (repeat (first | (refine seq_skip (by rfl) ?_; intro K hK; simp only [Act.put, List.setIfInBounds_toArray, List.set_cons_zero, List.set_cons_succ]; refine hK _ ?_; clear hK K) | (refine seq_skipc (by rfl) ?_; intro K hK; simp only [Act.put, List.setIfInBounds_toArray, List.set_cons_zero, List.set_cons_succ]; refine hK _ ?_; clear hK K) | (refine seq_read (by rfl) (by rfl) ?_; intro K hK; go_big_quiet_op; first | go_big_quiet_on | (refine ⟨_, fun _ _ => rfl, ?_⟩; go_big_quiet_on))))
      refine seq_done ?_
      go_wp2
      go_ret
      exact ⟨rfl, HE.out⟩
    · rw [ha] at his
      have hnb := fun w h => number12_c a e.l a0 a1 l0 l2 w h
      obtain ⟨n, hn⟩ : ∃ n, n = nbI a e.l := ⟨_, rfl⟩
      rw [← hn] at hnb ⊢
      clear hn
      go_enter Tryz.func160, Tryz.ntmps160
      go_wp2_with fail
      replace h1 := Blk.drew h1; replace HE := Lib.hid HE.out.drew
      replace HT := Lib.hid (HT.out.ext (Ext.refl _).drew)
      refine wp_region_seq [(0, false), (1, false), (2, false), (3, false), (4, true), (5, false), (6, false), (7, false), (8, false), (9, false), (10, false), (11, false), (12, true), (13, false), (14, false), (15, false)] Ext (by kernel_rfl) (by kernel_rfl) Ext.refl (fun _ _ _ => Ext.trans) ?_; simp only [List.map, nth_z, nth_s]
      (repeat ((refine seq_read (by rfl) (by rfl) ?_; intro K hK; go_big_quiet_op; (refine ⟨_, fun _ _ => rfl, ?_⟩; go_big_quiet_on))))
      refine seq_value (.bool e.v) (by rfl) (fun x hx => by have hq := ext_cell hx (h1.en_v); simp [go_sem, execOp, Act.eval, hq]) ?_; intro K hK; simp only [Act.put, List.setIfInBounds_toArray, List.set_cons_zero, List.set_cons_succ]; refine hK _ ?_; clear hK K
      rw [hv]
      (repeat ((refine seq_read (by rfl) (by rfl) ?_; intro K hK; go_big_quiet_op; (go_big_quiet_on))))
      refine seq_call (calls_ext (his _)) rfl Tryz.func79 (by kernel_rfl) (by kernel_rfl) (by rfl) (by rfl) ?_; intro K hK; rintro e w' ⟨rfl, hE⟩; refine ⟨_, rfl, hE, ?_⟩; simp only [Act.put, List.setIfInBounds_toArray, List.set_cons_zero, List.set_cons_succ]; refine hK _ _ ?_; clear hK K; replace h1 := h1.ext hE; replace HT := Lib.hid (HT.out.ext hE); (replace HE := Lib.hid (HE.out.trans hE))
      clear hE
      (repeat ((refine seq_read (by rfl) (by rfl) ?_; intro K hK; go_big_quiet_op; first | go_big_quiet_on | (refine ⟨_, fun _ _ => rfl, ?_⟩; go_big_quiet_on))))
      refine seq_value (.int .u64 (e.vp : Int)) (by rfl) (fun x hx => by have hq := ext_cell hx (h1.en_vp); simp [go_sem, execOp, Act.eval, hq]) ?_; intro K hK; simp only [Act.put, List.setIfInBounds_toArray, List.set_cons_zero, List.set_cons_succ]; refine hK _ ?_; clear hK K
      (repeat ((refine seq_read (by rfl) (by rfl) ?_; intro K hK; go_big_quiet_op; first | go_big_quiet_on | (refine ⟨_, fun _ _ => rfl, ?_⟩; go_big_quiet_on))))
      refine seq_value (.int .i64 e.l) (by rfl) (fun x hx => by have hq := ext_cell hx (h1.en_l); simp [go_sem, execOp, Act.eval, hq]) ?_; intro K hK; simp only [Act.put, List.setIfInBounds_toArray, List.set_cons_zero, List.set_cons_succ]; refine hK _ ?_; clear hK K
      refine seq_call (calls_ext (hnb _ HT.out)) rfl Tryz.func58 (by kernel_rfl) (by kernel_rfl) (by rfl) (by rfl) ?_; intro K hK; rintro e w' ⟨rfl, hE⟩; refine ⟨_, rfl, hE, ?_⟩; simp only [Act.put, List.setIfInBounds_toArray, List.set_cons_zero, List.set_cons_succ]; refine hK _ _ ?_; clear hK K; replace h1 := h1.ext hE; replace HT := Lib.hid (HT.out.ext hE); (replace HE := Lib.hid (HE.out.trans hE))
      clear hE
      (repeat ((refine seq_read (by rfl) (by rfl) ?_; intro K hK; go_big_quiet_op; first | go_big_quiet_on | (refine ⟨_, fun _ _ => rfl, ?_⟩; go_big_quiet_on))))
      refine seq_done ?_
      go_wp2
      go_ret
      exact ⟨rfl, HE.out⟩

theorem matE_eq (e : En) (n a : Int) : matE e n a = (covE e a && (e.g || ((e.n : Int) == n))) := by unfold matE; rfl
theorem matches_c (e : En) (he : e.v = true → 0 ≤ e.l ∧ e.l ≤ 2) (n a : Int) (n0 : 0 ≤ n) (n1 : n < 18446744073709551616) (a0 : 0 ≤ a) (a1 : a < 18446744073709551616) (w : World) (hT : Siz w) :
    Calls Tryz.prog 156 #[.agg (enC e), .int .u64 n, .int .u64 a] w fun r w' => r = .returned (.bool (matE e n a)) ∧ Ext w w' := by
  have h1 := Blk.new w 66 (enC e)
  have HE := Lib.hid ((Ext.refl w).alloc (.cells (enC e) 66))
  have HT := Lib.hid (hT.ext HE.out)
  clear hT
  rw [matE_eq]
  have hc := fun w h => covers_c e he a a0 a1 w h
  generalize covE e a = B at hc ⊢
  cases B <;> cases hg : e.g
  all_goals
    go_enter Tryz.func156, Tryz.ntmps156
    go_wp2_with ((refine wpList_load_blk (by rfl) 66 _ rfl rfl (by (exact h1)) Tryz.underlying66 rfl (by kernel_rfl) ?_)); refine (hc _ HT.out).mono ?_; rintro e w' ⟨rfl, hE⟩; replace h1 := h1.ext hE; replace HT := Lib.hid (HT.out.ext hE); (replace HE := Lib.hid (HE.out.trans hE))
    clear hE hc
    have x1 := h1.en_g
    have x2 := h1.en_n
    rw [hg] at x1
    clear hg
    go_wp2
    go_ret
    exact ⟨rfl, HE.out⟩

theorem phyE_eq (e : En) (a : Int) : phyE e a = (e.pp : Int) * 4096 + offI a e.l := by unfold phyE; rfl
theorem physical12_c (e : En) (l0 : 0 ≤ e.l) (l2 : e.l ≤ 2) (hp : e.pp < 17592186044416) (a : Int) (a0 : 0 ≤ a) (a1 : a < 18446744073709551616) (w : World) (hT : Siz w) :
    Calls Tryz.prog 128 #[.agg (enC e), .int .u64 a] w fun r w' => r = .returned (.int .u64 (phyE e a)) ∧ Ext w w' := by
  have ho := off_lt a e.l
  have hs : sizI e.l ≤ 1073741824 := (siz_lt l0 l2).2
  have h1 := Blk.new w 66 (enC e)
  have HE := Lib.hid ((Ext.refl w).alloc (.cells (enC e) 66))
  have HT := Lib.hid (hT.ext HE.out)
  clear hT
  have hof := fun w hT => offset5_c a e.l a0 a1 l0 l2 w hT
  rw [phyE_eq]
  generalize offI a e.l = q at *
  obtain ⟨m, hm⟩ : ∃ m, m = (e.pp : Int) * 4096 := ⟨_, rfl⟩
  have hw1 : IntKind.u64.wrap ((e.pp : Int) * 4096) = m := by rw [hm]; exact IntWalk.u64_in _ (by omega)
  have hw2 : IntKind.u64.wrap (m + q) = m + q := IntWalk.u64_in _ (by omega)
  rw [← hm]
  clear hm
  go_enter Tryz.func128, Tryz.ntmps128
  go_wp2_with fail
  replace h1 := Blk.drew h1; replace HE := Lib.hid HE.out.drew
  replace HT := Lib.hid (HT.out.ext (Ext.refl _).drew)
  refine wp_region_seq [(0, false), (1, false), (2, false), (3, false), (4, false), (5, false), (6, true), (7, false), (8, false)] Ext (by kernel_rfl) (by kernel_rfl) Ext.refl (fun _ _ _ => Ext.trans) ?_; simp only [List.map, nth_z, nth_s]
  (repeat ((refine seq_read (by rfl) (by rfl) ?_; intro K hK; go_big_quiet_op; (refine ⟨_, fun _ _ => rfl, ?_⟩; go_big_quiet_on))))
  refine seq_value (.int .u64 (e.pp : Int)) (by rfl) (fun x hx => by have hq := ext_cell hx (h1.en_pp); simp [go_sem, execOp, Act.eval, hq]) ?_; intro K hK; simp only [Act.put, List.setIfInBounds_toArray, List.set_cons_zero, List.set_cons_succ]; refine hK _ ?_; clear hK K
  (repeat ((refine seq_read (by rfl) (by rfl) ?_; intro K hK; go_big_quiet_op; first | go_big_quiet_on | (refine ⟨_, fun _ _ => rfl, ?_⟩; go_big_quiet_on))))
  refine seq_value (.int .i64 e.l) (by rfl) (fun x hx => by have hq := ext_cell hx (h1.en_l); simp [go_sem, execOp, Act.eval, hq]) ?_; intro K hK; simp only [Act.put, List.setIfInBounds_toArray, List.set_cons_zero, List.set_cons_succ]; refine hK _ ?_; clear hK K
  refine seq_call (calls_ext (hof _ HT.out)) rfl Tryz.func145 (by kernel_rfl) (by kernel_rfl) (by rfl) (by rfl) ?_; intro K hK; rintro e w' ⟨rfl, hE⟩; refine ⟨_, rfl, hE, ?_⟩; simp only [Act.put, List.setIfInBounds_toArray, List.set_cons_zero, List.set_cons_succ]; refine hK _ _ ?_; clear hK K; replace h1 := h1.ext hE; replace HT := Lib.hid (HT.out.ext hE); (replace HE := Lib.hid (HE.out.trans hE))
  clear hE
  (repeat ((refine seq_read (by rfl) (by rfl) ?_; intro K hK; go_big_quiet_op; first | go_big_quiet_on | (refine ⟨_, fun _ _ => rfl, ?_⟩; go_big_quiet_on))))
  refine seq_done ?_
  go_wp2
  go_ret
  exact ⟨rfl, HE.out⟩

end Go.Proofs.YtlhoedpencmikaaGreatDoor
/- Package entry: Of, trimmed, May. -/
namespace Go.Proofs.YtlhoedpencmikaaGreatDoor
open Go.ChangeShapes Go.WideShapes Go.ChangeAt Go.RowKit
set_option linter.unusedVariables false
set_option linter.unusedSimpArgs false
set_option maxRecDepth 10000

theorem lfC_7 (l : Lf) : (lfC l)[7]? = some (.bool l.pt.g) := by simp only [lfC_eq, ptC_eq]; rfl
theorem lfC_9 (l : Lf) : (lfC l)[9]? = some (.bool l.pt.d) := by simp only [lfC_eq, ptC_eq]; rfl
theorem lfC_11 (l : Lf) : (lfC l)[11]? = some (.int .u64 (l.pt.pp : Int)) := by simp only [lfC_eq, ptC_eq]; rfl
theorem nb_cast (a l : Int) : nbI a l = (((nbI a l).toNat : Nat) : Int) := by have := nb_lt a l; omega
theorem ofE_build (l : Lf) (a n : Nat) : Tryz.prog.built 66 [(0, .bool true), (1, .int .u64 (n : Int)), (2, .bool l.pt.g), (3, .int .i64 l.lv), (4, .int .u64 (((nbI a l.lv).toNat : Nat) : Int)), (5, .int .u64 (l.pt.pp : Int)), (6, .agg (pmC (permP l.pt))), (7, .bool l.pt.d)] = some (enC (ofE l a n)) := by
  unfold ofE
  exact en_build ⟨true, n, l.pt.g, l.lv, (nbI a l.lv).toNat, l.pt.pp, permP l.pt, l.pt.d⟩
set_option maxHeartbeats 1000000 in
theorem of12_c (l : Lf) (l0 : 0 ≤ l.lv) (l2 : l.lv ≤ 2) (a n : Nat) (a1 : a < 18446744073709551616) (w : World) (hT : Siz w) :
    Calls Tryz.prog 29 #[.agg (lfC l), .int .u64 (a : Int), .int .u64 (n : Int)] w fun r w' => r = .returned (.agg (enC (ofE l a n))) ∧ Ext w w' := by
  obtain ⟨W0, hW⟩ : ∃ W0, W0 = (w.alloc (.cells (lfC l) 75)).alloc (.cells #[.bool false, .int .u64 0, .bool false, .int .i64 0, .int .u64 0, .int .u64 0, .bool false, .bool false, .bool false, .bool false, .bool false] 66) := ⟨_, rfl⟩
  have HE : Hid (Ext w W0) := Lib.hid (by rw [hW]; exact ((Ext.refl w).alloc _).alloc _)
  have h1 : Blk W0 w.heap.size 75 (lfC l) := by rw [hW]; exact (Blk.new w _ _).alloc _
  have h2 : Blk W0 (w.heap.size + 1) 66 #[.bool false, .int .u64 0, .bool false, .int .i64 0, .int .u64 0, .int .u64 0, .bool false, .bool false, .bool false, .bool false, .bool false] := by rw [hW]; exact blk_at (by simp)
  have HT := Lib.hid (hT.ext HE.out)
  have hnb := fun w h => number12_c (a : Int) l.lv (by omega) (by omega) l0 l2 w h
  have hpm := perm_c l.pt
  have hbd := ofE_build l a n
  have hps : w.heap.size + 2 ≤ W0.heap.size := by rw [hW]; simp
  rw [nb_cast] at hnb
  generalize (nbI a l.lv).toNat = v at hnb hbd
  generalize ofE l a n = e at hbd ⊢
  have HW := Lib.hid hW
  clear hW hT
  go_enter Tryz.func29, Tryz.ntmps29
  go_wp2_with fail
  rw [← HW.out]
  clear HW
  replace h1 := Blk.drew h1; replace h2 := Blk.drew h2; replace HE := Lib.hid HE.out.drew
  replace HT := Lib.hid (HT.out.ext (Ext.refl _).drew)
  refine wp_region_seq [(0, false), (1, false), (2, false), (3, false), (4, false), (5, false), (6, false), (7, false), (8, false), (10, false), (11, false), (12, false), (13, false), (14, false), (16, false), (17, false), (18, false), (9, true), (15, true), (19, false), (20, true)] (Gap (w.heap.size + 1) (w.heap.size + 2)) (by kernel_rfl) (by kernel_rfl) (Gap.refl _ _) (fun _ _ _ => Gap.trans) ?_; simp only [List.map, nth_z, nth_s]
  (repeat ((refine seq_read (by rfl) (by rfl) ?_; intro K hK; go_big_quiet_op; first | go_big_quiet_on | (refine ⟨_, fun _ _ => rfl, ?_⟩; go_big_quiet_on))))
  refine seq_value (.bool l.pt.g) (by rfl) (fun x hx => by have hq := ((Gap.blk hx (h1) (by omega)).cell 7).trans (lfC_7 l); simp [go_sem, execOp, Act.eval, hq]) ?_; intro K hK; simp only [Act.put, List.setIfInBounds_toArray, List.set_cons_zero, List.set_cons_succ]; refine hK _ ?_; clear hK K
  (repeat ((refine seq_read (by rfl) (by rfl) ?_; intro K hK; go_big_quiet_op; (refine ⟨_, fun _ _ => rfl, ?_⟩; go_big_quiet_on))))
  refine seq_value (.int .i64 l.lv) (by rfl) (fun x hx => by have hq := ((Gap.blk hx (h1) (by omega)).cell 0).trans (lfC_lv l); simp [go_sem, execOp, Act.eval, hq]) ?_; intro K hK; simp only [Act.put, List.setIfInBounds_toArray, List.set_cons_zero, List.set_cons_succ]; refine hK _ ?_; clear hK K
  (repeat ((refine seq_read (by rfl) (by rfl) ?_; intro K hK; go_big_quiet_op; first | go_big_quiet_on | (refine ⟨_, fun _ _ => rfl, ?_⟩; go_big_quiet_on))))
  refine seq_value (.int .i64 l.lv) (by rfl) (fun x hx => by have hq := ((Gap.blk hx (h1) (by omega)).cell 0).trans (lfC_lv l); simp [go_sem, execOp, Act.eval, hq]) ?_; intro K hK; simp only [Act.put, List.setIfInBounds_toArray, List.set_cons_zero, List.set_cons_succ]; refine hK _ ?_; clear hK K
  (repeat ((refine seq_read (by rfl) (by rfl) ?_; intro K hK; go_big_quiet_op; (refine ⟨_, fun _ _ => rfl, ?_⟩; go_big_quiet_on))))
  refine seq_value (.int .u64 (l.pt.pp : Int)) (by rfl) (fun x hx => by have hq := ((Gap.blk hx (h1) (by omega)).cell 11).trans (lfC_11 l); simp [go_sem, execOp, Act.eval, hq]) ?_; intro K hK; simp only [Act.put, List.setIfInBounds_toArray, List.set_cons_zero, List.set_cons_succ]; refine hK _ ?_; clear hK K
  (repeat ((refine seq_read (by rfl) (by rfl) ?_; intro K hK; go_big_quiet_op; (refine ⟨_, fun _ _ => rfl, ?_⟩; go_big_quiet_on))))
  refine seq_load_part rfl rfl ((fun x hx => Gap.blk hx h1 (by omega))) (lfC_pt l) rfl Tryz.underlying73 (pt_info _) (by rfl) ?_; intro K hK; simp only [Act.put, List.setIfInBounds_toArray, List.set_cons_zero, List.set_cons_succ]; refine hK _ ?_; clear hK K
  (repeat ((refine seq_read (by rfl) (by rfl) ?_; intro K hK; go_big_quiet_op; (refine ⟨_, fun _ _ => rfl, ?_⟩; go_big_quiet_on))))
  refine seq_value (.bool l.pt.d) (by rfl) (fun x hx => by have hq := ((Gap.blk hx (h1) (by omega)).cell 9).trans (lfC_9 l); simp [go_sem, execOp, Act.eval, hq]) ?_; intro K hK; simp only [Act.put, List.setIfInBounds_toArray, List.set_cons_zero, List.set_cons_succ]; refine hK _ ?_; clear hK K
  skip
  refine seq_call (calls_ext (hnb _ HT.out)) rfl Tryz.func58 (by kernel_rfl) (by kernel_rfl) (by rfl) (by rfl) ?_; intro K hK; rintro e w' ⟨rfl, hE⟩; refine ⟨_, rfl, (Gap.ext hE), ?_⟩; simp only [Act.put, List.setIfInBounds_toArray, List.set_cons_zero, List.set_cons_succ]; refine hK _ _ ?_; clear hK K; replace h1 := h1.ext hE; replace h2 := h2.ext hE; replace HT := Lib.hid (HT.out.ext hE); (replace HE := Lib.hid (HE.out.trans hE))
  clear hE
  refine seq_call (hpm _) rfl Tryz.func59 (by kernel_rfl) (by kernel_rfl) (by rfl) (by rfl) ?_; intro K hK; rintro e w' ⟨rfl, hE⟩; refine ⟨_, rfl, (Gap.ext hE), ?_⟩; simp only [Act.put, List.setIfInBounds_toArray, List.set_cons_zero, List.set_cons_succ]; refine hK _ _ ?_; clear hK K; replace h1 := h1.ext hE; replace h2 := h2.ext hE; replace HT := Lib.hid (HT.out.ext hE); (replace HE := Lib.hid (HE.out.trans hE))
  clear hE
  skip
  refine seq_build_as rfl (hbd) (by rfl) ?_; intro K hK; simp only [Act.put, List.setIfInBounds_toArray, List.set_cons_zero, List.set_cons_succ]; refine hK _ ?_; clear hK K
  refine seq_store_row rfl rfl rfl (h2) (en_info _) (by simp [enC_size]) (enC_one _) (by rfl) (Gap.row _ (by omega) (by omega) _) ?_; intro K hK; simp only [Act.put]; refine hK _ _ ?_; clear hK K
  refine seq_done ?_
  go_wp2
  refine bodyPost_ret (results_cell_row rfl _ _ _ _ _ _ _ rfl ((h2.row _)) Tryz.underlying66 rfl (en_info _)) rfl ?_
  exact ⟨rfl, HE.out.row (by omega) _⟩

def enN (p : En) (x : Nat) : En := { p with n := x }
def enVp (p : En) (x : Nat) : En := { p with vp := x }
def enPp (p : En) (x : Nat) : En := { p with pp := x }
theorem set_enN (p : En) (x : Nat) {y : Int} (h : y = (x : Int)) : (enC p).setIfInBounds 1 (.int .u64 y) = enC (enN p x) := by rw [h]; exact enC_set_n p x
theorem set_enVp (p : En) (x : Nat) {y : Int} (h : y = (x : Int)) : (enC p).setIfInBounds 4 (.int .u64 y) = enC (enVp p x) := by rw [h]; exact enC_set_vp p x
theorem set_enPp (p : En) (x : Nat) {y : Int} (h : y = (x : Int)) : (enC p).setIfInBounds 5 (.int .u64 y) = enC (enPp p x) := by rw [h]; exact enC_set_pp p x
theorem enN_at (p : En) (x : Nat) : (enN p x).l = p.l ∧ (enN p x).vp = p.vp ∧ (enN p x).pp = p.pp := ⟨rfl, rfl, rfl⟩
theorem enVp_at (p : En) (x : Nat) : (enVp p x).l = p.l ∧ (enVp p x).pp = p.pp := ⟨rfl, rfl⟩
theorem enPp_at (p : En) (x : Nat) : (enPp p x).l = p.l ∧ (enPp p x).pp = x := ⟨rfl, rfl⟩
theorem upE_eq (e : En) (n v p q : Nat) : enPp (enPp (enVp (enN e n) v) p) q = upE e n v q := by unfold upE enPp enVp enN; rfl
attribute [irreducible] enN enVp enPp
theorem e0_cells : enC e0 = #[.bool false, .int .u64 0, .bool false, .int .i64 0, .int .u64 0, .int .u64 0, .bool false, .bool false, .bool false, .bool false, .bool false] := by unfold e0; rw [enC_def, pmC_def]; rfl
theorem e0_build : Tryz.prog.built 66 [] = some (enC e0) := by rw [e0_cells]; kernel_rfl

set_option maxHeartbeats 1000000 in
theorem trimmed_neg (e : En) (hn : trimE e = e0) (hc : (!e.v || (decide (e.l < 0) || decide (2 < e.l))) = true) (w : World) (hT : Siz w) :
    Calls Tryz.prog 148 #[.agg (enC e)] w fun r w' => r = .returned (.agg (enC (trimE e))) ∧ Ext w w' := by
  rw [hn]
  clear hn
  have h1 : Blk ((w.alloc (.cells (enC e) 66)).alloc (.cells #[.bool false, .int .u64 0, .bool false, .int .i64 0, .int .u64 0, .int .u64 0, .bool false, .bool false, .bool false, .bool false, .bool false] 66)) w.heap.size 66 (enC e) := (Blk.new w _ _).alloc _
  have h2 : Blk ((w.alloc (.cells (enC e) 66)).alloc (.cells #[.bool false, .int .u64 0, .bool false, .int .i64 0, .int .u64 0, .int .u64 0, .bool false, .bool false, .bool false, .bool false, .bool false] 66)) (w.heap.size + 1) 66 #[.bool false, .int .u64 0, .bool false, .int .i64 0, .int .u64 0, .int .u64 0, .bool false, .bool false, .bool false, .bool false, .bool false] := blk_at (by simp)
  have HE : Hid (Ext w ((w.alloc (.cells (enC e) 66)).alloc (.cells #[.bool false, .int .u64 0, .bool false, .int .i64 0, .int .u64 0, .int .u64 0, .bool false, .bool false, .bool false, .bool false, .bool false] 66))) := Lib.hid (((Ext.refl w).alloc _).alloc _)
  have x0 := h1.en_v
  have x3 := h1.en_l
  clear h1
  cases hv : e.v <;> cases hl : decide (e.l < 0) <;> cases hg : decide (2 < e.l)
  all_goals
    rw [hv, hl, hg] at hc
    try
      clear hc
      rw [hv] at x0
      clear hv
      go_enter Tryz.func148, Tryz.ntmps148
      go_wp2_with (first | (refine wpList_build_as (by rfl) rfl (e0_build) ?_) | (refine wpList_store_row rfl 66 _ _ rfl _ (enC _) rfl rfl _ _ h2 (en_info _) (by simp [enC_size]) (enC_one _) ?_))
      refine bodyPost_ret (results_cell_row rfl _ _ _ _ _ _ _ rfl ((h2.row _)) Tryz.underlying66 rfl (en_info _)) rfl ?_
      exact ⟨rfl, HE.out.row (by omega) _⟩
  exact absurd hc (by decide)

set_option maxHeartbeats 4000000 in
theorem trimmed_pos (e : En) (hv : e.v = true) (v0 : e.vp < 18446744073709551616) (lv : Int) (l0 : 0 ≤ lv) (l2 : lv ≤ 2) (hl : e.l = lv) (sz : Int) (hsz : ∀ w, Siz w → Calls Tryz.prog 134 #[.int .i64 lv] w fun e w' => e = .returned (.int .u64 sz) ∧ w = w')
    (p q : Nat) (hp : (e.pp : Int) % 17592186044416 = (p : Int)) (hs : (sz = 4096 ∧ (p : Int) = (q : Int)) ∨ (sz = 2097152 ∧ (p : Int) - (p : Int) % 512 = (q : Int)) ∨ (sz = 1073741824 ∧ (p : Int) - (p : Int) % 262144 = (q : Int))) (v : Nat) (hnv : nbI (ofI e.vp) lv = (v : Int)) (w : World) (hT : Siz w) :
    Calls Tryz.prog 148 #[.agg (enC e)] w fun r w' => r = .returned (.agg (enC (upE e (e.n % 65536) v q))) ∧ Ext w w' := by
  have b1 := of_lt (e.vp : Int)
  have hof := fun w => of5_c (e.vp : Int) (by omega) (by omega) w
  have hnb := fun w h => number12_c (ofI e.vp) lv b1.1 b1.2 l0 l2 w h
  rw [hnv] at hnb
  generalize ofI (e.vp : Int) = x at *
  rw [← upE_eq e (e.n % 65536) v p q]
  have hn : (e.n : Int) % 65536 = ((e.n % 65536 : Nat) : Int) := by omega
  generalize e.n % 65536 = n' at hn ⊢
  have HA := enN_at e n'
  have HB := enVp_at (enN e n') v
  have HC := enPp_at (enVp (enN e n') v) p
  have SA := set_enN e n' hn
  obtain ⟨W0, hW⟩ : ∃ W0, W0 = (w.alloc (.cells (enC e) 66)).alloc (.cells #[.bool false, .int .u64 0, .bool false, .int .i64 0, .int .u64 0, .int .u64 0, .bool false, .bool false, .bool false, .bool false, .bool false] 66) := ⟨_, rfl⟩
  have HE : Hid (Ext w W0) := Lib.hid (by rw [hW]; exact ((Ext.refl w).alloc _).alloc _)
  have h1 : Blk W0 w.heap.size 66 (enC e) := by rw [hW]; exact (Blk.new w _ _).alloc _
  have h2 : Blk W0 (w.heap.size + 1) 66 #[.bool false, .int .u64 0, .bool false, .int .i64 0, .int .u64 0, .int .u64 0, .bool false, .bool false, .bool false, .bool false, .bool false] := by rw [hW]; exact blk_at (by simp)
  have hps : w.heap.size + 2 ≤ W0.heap.size := by rw [hW]; simp
  have x0 := h1.en_v
  have x3 := h1.en_l
  have x1 := h1.en_n
  rw [hv] at x0
  rw [hl] at x3
  rw [hW] at x0 x3 x1
  have h1W := h1
  rw [hW] at h1W
  have HW := Lib.hid hW
  clear hW hv
  go_enter Tryz.func148, Tryz.ntmps148
  go_wp2_with (refine wpList_store_cell rfl 25 _ _ rfl rfl rfl h1W (by simp [enC_size]) (SA) (by kernel_rfl) rfl rfl ?_)
  rw [← HW.out]
  clear HW SA h1W x0 x3 x1
  replace h2 := h2.apart (show w.heap.size + 1 ≠ w.heap.size by omega) (enC (enN e n'))
  replace h1 := h1.row (enC (enN e n'))
  replace HE := Lib.hid (HE.out.row (Nat.le_refl _) (enC (enN e n')))
  refine region_tail 7 (by kernel_rfl) (by kernel_rfl) ?_; intro w1 hE
  replace h1 := h1.ext hE; replace h2 := h2.ext hE; (replace HE := Lib.hid (HE.out.trans hE))
  clear hE
  have x4 := h1.en_vp
  have x3 := h1.en_l
  rw [HA.2.1] at x4
  rw [HA.1, hl] at x3
  simp only [List.take_succ_cons, List.take_zero, List.drop_succ_cons, List.drop_zero]; repeat still_step
  still_call (Calls.mono (hof _) fun _ _ h => ⟨h.1, h.2.symm⟩); repeat still_step
  still_call (Calls.mono (hnb _ (hT.ext HE.out)) fun _ _ h => ⟨h.1, h.2.symm⟩); repeat still_step
  refine wpStill_nil ?_
  have SB := set_enVp (enN e n') v rfl
  clear x4 x3
  have h1b := h1.row (enC (enVp (enN e n') v))
  have x5 := h1b.en_pp
  rw [HB.2, HA.2.2] at x5
  have SC := set_enPp (enVp (enN e n') v) p hp
  go_wp2_with (first | (refine wpList_store_cell rfl 25 _ _ rfl rfl rfl h1 (by simp [enC_size]) (SB) (by kernel_rfl) rfl rfl ?_) | (refine wpList_store_cell rfl 25 _ _ rfl rfl rfl h1b (by simp [enC_size]) (SC) (by kernel_rfl) rfl rfl ?_))
  clear SB SC h1b x5
  replace h2 := (h2.apart (show w.heap.size + 1 ≠ w.heap.size by omega) (enC (enVp (enN e n') v))).apart (show w.heap.size + 1 ≠ w.heap.size by omega) (enC (enPp (enVp (enN e n') v) p))
  replace h1 := (h1.row (enC (enVp (enN e n') v))).row (enC (enPp (enVp (enN e n') v) p))
  replace HE := Lib.hid ((HE.out.row (Nat.le_refl _) (enC (enVp (enN e n') v))).row (Nat.le_refl _) (enC (enPp (enVp (enN e n') v) p)))
  have p1 : (p : Int) < 17592186044416 := by omega
  clear hp hn
  have m1 : IntKind.u64.wrap ((p : Int) - (p : Int).tmod 512) = (p : Int) - (p : Int) % 512 := by rw [Int.tmod_eq_emod_of_nonneg (by omega)]; exact IntWalk.u64_in _ (by omega)
  have m2 : IntKind.u64.wrap ((p : Int) - (p : Int).tmod 262144) = (p : Int) - (p : Int) % 262144 := by rw [Int.tmod_eq_emod_of_nonneg (by omega)]; exact IntWalk.u64_in _ (by omega)
  have m3 : IntKind.u64.wrap (p : Int) = (p : Int) := IntWalk.u64_in _ (by omega)
  rcases hs with ⟨rfl, hq⟩ | ⟨rfl, hq⟩ | ⟨rfl, hq⟩
  all_goals
    refine region_tail 11 (by kernel_rfl) (by kernel_rfl) ?_; intro w2 hE
    replace h1 := h1.ext hE; replace h2 := h2.ext hE; (replace HE := Lib.hid (HE.out.trans hE))
    clear hE
    have x5 := h1.en_pp
    have x3 := h1.en_l
    rw [HC.2] at x5
    rw [HC.1, HB.1, HA.1, hl] at x3
    have h1c := h1.row (enC (enPp (enPp (enVp (enN e n') v) p) q))
    have h2c := h2.apart (show w.heap.size + 1 ≠ w.heap.size by omega) (enC (enPp (enPp (enVp (enN e n') v) p) q))
    have SD := set_enPp (enPp (enVp (enN e n') v) p) q hq
    have HX := Lib.hid ((HE.out.row (Nat.le_refl _) (enC (enPp (enPp (enVp (enN e n') v) p) q))).row (show w.heap.size ≤ w.heap.size + 1 by omega) (enC (enPp (enPp (enVp (enN e n') v) p) q)))
    replace hsz := hsz w2 (hT.ext HE.out)
    clear HA HB HC HE hq
    simp only [List.take_succ_cons, List.take_zero, List.drop_succ_cons, List.drop_zero]; repeat still_step
    still_call (Calls.mono (hsz) fun _ _ h => ⟨h.1, h.2.symm⟩); repeat still_step
    (first | rw [show IntKind.u64.wrap 1 = 1 by decide] | rw [show IntKind.u64.wrap 512 = 512 by decide] | rw [show IntKind.u64.wrap 262144 = 262144 by decide])
    repeat still_step
    refine wpStill_nil ?_
    clear m1 m2 m3
    go_wp2_with (first | (refine wpList_store_cell rfl 25 _ _ rfl rfl rfl h1 (by simp [enC_size]) (SD) (by kernel_rfl) rfl rfl ?_) | (refine wpList_load_blk (by rfl) 66 _ rfl rfl (by with_reducible assumption) Tryz.underlying66 rfl (by kernel_rfl) ?_) | (refine wpList_store_row rfl 66 _ _ rfl _ (enC _) rfl rfl _ _ h2c (en_info _) (by simp [enC_size]) (enC_one _) ?_))
    refine bodyPost_ret (results_cell_row rfl _ _ _ _ _ _ _ rfl ((h2c.row _)) Tryz.underlying66 rfl (en_info _)) rfl ?_
    exact ⟨rfl, HX.out⟩
theorem trimmed_c (e : En) (he : e.ok) (w : World) (hT : Siz w) :
    Calls Tryz.prog 148 #[.agg (enC e)] w fun r w' => r = .returned (.agg (enC (trimE e))) ∧ Ext w w' := by
  by_cases h : e.v = true ∧ 0 ≤ e.l ∧ e.l ≤ 2
  · obtain ⟨hv, l0, l2⟩ := h
    rw [trim_pos hv l0 l2]
    have h1 : (e.pp : Int) % 17592186044416 = (((e.pp : Int) % 17592186044416).toNat : Nat) := by omega
    have hv1 := nb_cast (ofI e.vp) e.l
    have hsz := fun w h => size5_c e.l l0 l2 w h
    refine trimmed_pos e hv he.2.2.1 e.l l0 l2 rfl (sizI e.l) hsz _ _ h1 ?_ _ hv1 w hT
    rw [← h1]
    have hn : 0 ≤ (e.pp : Int) % 17592186044416 := by omega
    generalize (e.pp : Int) % 17592186044416 = x at hn
    rcases level_lt l0 l2 with h | h | h
    · rw [h, siz0, pag0]; exact .inl ⟨rfl, by omega⟩
    · rw [h, siz1, pag1]; exact .inr (.inl ⟨rfl, by omega⟩)
    · rw [h, siz2, pag2]; exact .inr (.inr ⟨rfl, by omega⟩)
  · refine trimmed_neg e (trim_neg h) ?_ w hT
    cases hv : e.v
    · rfl
    · simp only [hv, true_and] at h
      simp; omega
theorem may12_c (e : En) (he : e.ok) (w : World) (hT : Siz w) :
    Calls Tryz.prog 119 #[.agg (enC e)] w fun r w' => r = .returned (.bool (mayE e)) ∧ Ext w w' := by
  have h1 := Blk.new w 66 (enC e)
  have HE := Lib.hid ((Ext.refl w).alloc (.cells (enC e) 66))
  have htr := fun w h => trimmed_c e he w h
  have heq : ∀ w, (binOp .eql 66 (.agg (enC e)) (.agg (enC (trimE e)))).run Tryz.prog w = .ok (.bool (mayE e)) w := fun w => by rw [eql_en, may_eq]
  generalize trimE e = f at htr heq
  generalize mayE e = B at heq ⊢
  go_enter Tryz.func119, Tryz.ntmps119
  go_wp2_with fail
  replace h1 := Blk.drew h1; replace HE := Lib.hid HE.out.drew
  refine wp_region_seq [(0, false), (1, false), (2, true), (3, false), (4, false)] Ext (by kernel_rfl) (by kernel_rfl) Ext.refl (fun _ _ _ => Ext.trans) ?_; simp only [List.map, nth_z, nth_s]
  refine seq_load rfl rfl (fun x hx => Blk.ext (h1) hx) rfl Tryz.underlying66 (by kernel_rfl) (by rfl) ?_; intro K hK; simp only [Act.put, List.setIfInBounds_toArray, List.set_cons_zero, List.set_cons_succ]; refine hK _ ?_; clear hK K
  refine seq_load rfl rfl (fun x hx => Blk.ext (h1) hx) rfl Tryz.underlying66 (by kernel_rfl) (by rfl) ?_; intro K hK; simp only [Act.put, List.setIfInBounds_toArray, List.set_cons_zero, List.set_cons_succ]; refine hK _ ?_; clear hK K
  refine seq_call (htr _ (hT.ext HE.out)) rfl Tryz.func148 (by kernel_rfl) (by kernel_rfl) (by rfl) (by rfl) ?_; intro K hK; rintro e w' ⟨rfl, hE⟩; refine ⟨_, rfl, hE, ?_⟩; simp only [Act.put, List.setIfInBounds_toArray, List.set_cons_zero, List.set_cons_succ]; refine hK _ _ ?_; clear hK K; replace h1 := h1.ext hE; (replace HE := Lib.hid (HE.out.trans hE))
  clear hE
  refine seq_cmp rfl rfl rfl (en_guard) (heq) (by rfl) ?_; intro K hK; simp only [Act.put, List.setIfInBounds_toArray, List.set_cons_zero, List.set_cons_succ]; refine hK _ ?_; clear hK K
  (repeat ((refine seq_read (by rfl) (by rfl) ?_; intro K hK; go_big_quiet_op; (go_big_quiet_on))))
  refine seq_done ?_
  go_wp2
  go_ret
  exact ⟨rfl, HE.out⟩
end Go.Proofs.YtlhoedpencmikaaGreatDoor
