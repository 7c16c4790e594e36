/- Entries of the buffer as plain numbers: what may be, what is covered, matched, led, and when two are over one another. -/
import Derived.Test.YtlhoedpencmikaaDoorMfive
import Derived.Test.YtlhoedpencmikaaDoorGst
import Derived.Test.YtlhoedpencmikaaDoorMsix
import Derived.Test.YtlhoedpencmikaaDoorGpte
import Derived.Test.YtlhoedpencmikaaDoorCfive
import Derived.Test.YtlhoedpencmikaaDoorGagg
namespace Go.Proofs.YtlhoedpencmikaaDoor
set_option linter.unusedVariables false

def pagI (l : Int) : Int := sizI l / 4096
def nbI (a l : Int) : Int := numI (basI a l)
def e0 : En := ⟨false, 0, false, 0, 0, 0, ⟨false, false, false, false⟩, false⟩
def mayE (e : En) : Bool := if e.v then decide (0 ≤ e.l ∧ e.l ≤ 2 ∧ e.vp < 134217728 ∧ e.pp < 17592186044416 ∧ e.n < 65536 ∧ (e.vp : Int) % pagI e.l = 0 ∧ (e.pp : Int) % pagI e.l = 0) else decide (e = e0)
def upE (e : En) (n vp pp : Nat) : En := { e with n := n, vp := vp, pp := pp }
theorem upE_n (e : En) (n vp pp : Nat) : (upE e n vp pp).n = n := rfl
theorem upE_vp (e : En) (n vp pp : Nat) : (upE e n vp pp).vp = vp := rfl
theorem upE_pp (e : En) (n vp pp : Nat) : (upE e n vp pp).pp = pp := rfl
theorem upE_same {e : En} {n vp pp : Nat} (h1 : e.n = n) (h2 : e.vp = vp) (h3 : e.pp = pp) : e = upE e n vp pp := by
  subst h1 h2 h3; rfl
def trimE (e : En) : En := if e.v = true ∧ 0 ≤ e.l ∧ e.l ≤ 2 then upE e (e.n % 65536) (nbI (ofI e.vp) e.l).toNat ((e.pp : Int) % 17592186044416 - (e.pp : Int) % 17592186044416 % pagI e.l).toNat else e0
def covE (e : En) (a : Int) : Bool := e.v && (vaB a && ((e.vp : Int) == nbI a e.l))
def matE (e : En) (n a : Int) : Bool := covE e a && (e.g || ((e.n : Int) == n))
def phyE (e : En) (a : Int) : Int := (e.pp : Int) * 4096 + offI a e.l
def overE (e f : En) : Bool := e.v && (f.v && (covE e (ofI f.vp) || covE f (ofI e.vp)))
def ofE (l : Lf) (a n : Nat) : En := ⟨true, n, l.pt.g, l.lv, (nbI a l.lv).toNat, l.pt.pp, permP l.pt, l.pt.d⟩
def leafE (l : Lf) : Bool := decide (0 ≤ l.lv ∧ l.lv ≤ 2 ∧ l.pt.pp < 17592186044416 ∧ (l.pt.pp : Int) % pagI l.lv = 0)

theorem pag0 : pagI 0 = 1 := by unfold pagI; rw [siz0]; decide
theorem pag1 : pagI 1 = 512 := by unfold pagI; rw [siz1]; decide
theorem pag2 : pagI 2 = 262144 := by unfold pagI; rw [siz2]; decide
theorem pag_is {l : Int} (l0 : 0 ≤ l) (l2 : l ≤ 2) : (l = 0 ∧ pagI l = 1) ∨ (l = 1 ∧ pagI l = 512) ∨ (l = 2 ∧ pagI l = 262144) := by
  rcases level_lt l0 l2 with rfl | rfl | rfl
  · exact .inl ⟨rfl, pag0⟩
  · exact .inr (.inl ⟨rfl, pag1⟩)
  · exact .inr (.inr ⟨rfl, pag2⟩)
/-- the page number of an address' base -/
theorem nb_eq {a l : Int} (l0 : 0 ≤ l) (l2 : l ≤ 2) : nbI a l = numI a - numI a % pagI l := by
  rcases level_lt l0 l2 with rfl | rfl | rfl
  · rw [pag0]; unfold nbI basI numI; rw [siz0]; omega
  · rw [pag1]; unfold nbI basI numI; rw [siz1]; omega
  · rw [pag2]; unfold nbI basI numI; rw [siz2]; omega
theorem nb_lt (a l : Int) : 0 ≤ nbI a l ∧ nbI a l < 134217728 := num_lt _
theorem num_of {n : Int} : numI (ofI n) = n % 134217728 := by
  unfold numI ofI; split <;> omega
theorem of_va (n : Int) : vaB (ofI n) = true := by
  unfold vaB ofI
  rw [Bool.or_eq_true, decide_eq_true_iff, decide_eq_true_iff]
  split <;> omega
theorem nb_mod {a l : Int} (l0 : 0 ≤ l) (l2 : l ≤ 2) : nbI a l % pagI l = 0 := by
  rw [nb_eq l0 l2]
  rcases pag_is l0 l2 with ⟨_, h⟩ | ⟨_, h⟩ | ⟨_, h⟩ <;> rw [h] <;> omega
/-- a page's range: the page number that an address' base has -/
theorem cov_range {v n p : Int} (hp : p = 1 ∨ p = 512 ∨ p = 262144) (hv : v % p = 0) : (v == n - n % p) = (decide (v ≤ n) && decide (n < v + p)) := by
  rw [Bool.eq_iff_iff, beq_iff_eq, Bool.and_eq_true, decide_eq_true_iff, decide_eq_true_iff]
  rcases hp with rfl | rfl | rfl <;> omega

/-- what holds of an entry that may be and is Valid -/
structure MayV (e : En) : Prop where
  l0 : 0 ≤ e.l
  l2 : e.l ≤ 2
  vp : e.vp < 134217728
  pp : e.pp < 17592186044416
  n : e.n < 65536
  vm : (e.vp : Int) % pagI e.l = 0
  pm : (e.pp : Int) % pagI e.l = 0
theorem may_v {e : En} (h : mayE e = true) (hv : e.v = true) : MayV e := by
  unfold mayE at h
  rw [if_pos hv, decide_eq_true_iff] at h
  obtain ⟨h1, h2, h3, h4, h5, h6, h7⟩ := h
  exact ⟨h1, h2, h3, h4, h5, h6, h7⟩
theorem v_may {e : En} (h : MayV e) (hv : e.v = true) : mayE e = true := by
  unfold mayE
  rw [if_pos hv, decide_eq_true_iff]
  exact ⟨h.l0, h.l2, h.vp, h.pp, h.n, h.vm, h.pm⟩
theorem may_n {e : En} (h : mayE e = true) (hv : e.v = false) : e = e0 := by
  unfold mayE at h
  rw [if_neg (by simp [hv]), decide_eq_true_iff] at h
  exact h
theorem may_lv {e : En} (h : mayE e = true) : 0 ≤ e.l ∧ e.l ≤ 2 := by
  cases hv : e.v
  · rw [may_n h hv]; decide
  · exact ⟨(may_v h hv).l0, (may_v h hv).l2⟩
theorem may_lt {e : En} (h : mayE e = true) : e.vp < 134217728 ∧ e.pp < 17592186044416 ∧ e.n < 65536 := by
  cases hv : e.v
  · rw [may_n h hv]; decide
  · exact ⟨(may_v h hv).vp, (may_v h hv).pp, (may_v h hv).n⟩
theorem en_ext {e f : En} (h1 : e.v = f.v) (h2 : e.n = f.n) (h3 : e.g = f.g) (h4 : e.l = f.l) (h5 : e.vp = f.vp) (h6 : e.pp = f.pp) (h7 : e.pm = f.pm) (h8 : e.d = f.d) : e = f := by
  cases e; cases f; simp_all
theorem trim_pos {e : En} (hv : e.v = true) (l0 : 0 ≤ e.l) (l2 : e.l ≤ 2) : trimE e = upE e (e.n % 65536) (nbI (ofI e.vp) e.l).toNat ((e.pp : Int) % 17592186044416 - (e.pp : Int) % 17592186044416 % pagI e.l).toNat := by
  unfold trimE; rw [if_pos ⟨hv, l0, l2⟩]
theorem trim_neg {e : En} (h : ¬ (e.v = true ∧ 0 ≤ e.l ∧ e.l ≤ 2)) : trimE e = e0 := by
  unfold trimE; rw [if_neg h]
theorem may_eq (e : En) : decide (e = trimE e) = mayE e := by
  rw [Bool.eq_iff_iff, decide_eq_true_iff]
  by_cases h : e.v = true ∧ 0 ≤ e.l ∧ e.l ≤ 2
  · obtain ⟨hv, l0, l2⟩ := h
    rw [trim_pos hv l0 l2]
    have hn := nb_eq (a := ofI e.vp) l0 l2
    rw [num_of] at hn
    constructor
    · intro h
      have h1 := (congrArg En.n h).trans (upE_n _ _ _ _)
      have h2 := (congrArg En.vp h).trans (upE_vp _ _ _ _)
      have h3 := (congrArg En.pp h).trans (upE_pp _ _ _ _)
      clear h
      have h5 := nb_lt (ofI e.vp) e.l
      refine v_may ⟨l0, l2, ?_, ?_, ?_, ?_, ?_⟩ hv
      · omega
      · rcases pag_is l0 l2 with ⟨_, h⟩ | ⟨_, h⟩ | ⟨_, h⟩ <;> rw [h] at h3 <;> omega
      · omega
      · rcases pag_is l0 l2 with ⟨_, h⟩ | ⟨_, h⟩ | ⟨_, h⟩ <;> rw [h] at hn ⊢ <;> omega
      · rcases pag_is l0 l2 with ⟨_, h⟩ | ⟨_, h⟩ | ⟨_, h⟩ <;> rw [h] at h3 ⊢ <;> omega
    · intro h
      have k := may_v h hv
      have k1 := k.vp
      have k2 := k.pp
      have k3 := k.n
      have k4 := k.vm
      have k5 := k.pm
      refine upE_same ?_ ?_ ?_
      · omega
      · have hq : nbI (ofI e.vp) e.l = e.vp := by
          have hm : (e.vp : Int) % 134217728 = e.vp := by omega
          rw [hn, hm, k4]
          omega
        rw [hq, Int.toNat_natCast]
      · have hq : (e.pp : Int) % 17592186044416 = e.pp := by omega
        rw [hq, k5]
        omega
  · rw [trim_neg h]
    cases hv : e.v
    · unfold mayE; rw [if_neg (by simp [hv]), decide_eq_true_iff]
    · constructor
      · intro he; rw [he] at hv; cases hv
      · intro hm; exact absurd ⟨hv, (may_v hm hv).l0, (may_v hm hv).l2⟩ h

/-! what is covered, by the document -/
theorem cov_ref {e : En} (h : mayE e = true) {a : Int} (ha : vaB a = true) : covE e a = (e.v && (decide ((e.vp : Int) ≤ numI a) && decide (numI a < (e.vp : Int) + pagI e.l))) := by
  unfold covE
  cases hv : e.v
  · simp
  · have k := may_v h hv
    rw [ha, nb_eq k.l0 k.l2, cov_range (by rcases pag_is k.l0 k.l2 with ⟨_, h⟩ | ⟨_, h⟩ | ⟨_, h⟩ <;> simp [h]) k.vm]
    simp
theorem nb_of {e : En} (k : MayV e) (l : Int) (l0 : 0 ≤ l) (l2 : l ≤ 2) : nbI (ofI e.vp) l = e.vp - e.vp % pagI l := by
  rw [nb_eq l0 l2, num_of]
  have := k.vp
  rcases pag_is l0 l2 with ⟨_, h⟩ | ⟨_, h⟩ | ⟨_, h⟩ <;> rw [h] <;> omega
theorem over_ref {e f : En} (h : mayE e = true) (k : mayE f = true) : overE e f = (e.v && (f.v && (decide ((e.vp : Int) < f.vp + pagI f.l) && decide ((f.vp : Int) < e.vp + pagI e.l)))) := by
  unfold overE
  cases hv : e.v
  · simp
  cases hw : f.v
  · simp
  have x := may_v h hv
  have y := may_v k hw
  unfold covE
  rw [hv, hw, of_va, of_va, nb_of y _ x.l0 x.l2, nb_of x _ y.l0 y.l2]
  simp only [Bool.true_and]
  have x1 := x.vp
  have y1 := y.vp
  have x2 := x.vm
  have y2 := y.vm
  rw [Bool.eq_iff_iff, Bool.or_eq_true, beq_iff_eq, beq_iff_eq, Bool.and_eq_true, decide_eq_true_iff, decide_eq_true_iff]
  rcases pag_is x.l0 x.l2 with ⟨_, h⟩ | ⟨_, h⟩ | ⟨_, h⟩ <;> rcases pag_is y.l0 y.l2 with ⟨_, k⟩ | ⟨_, k⟩ | ⟨_, k⟩ <;> rw [h] at x2 ⊢ <;> rw [k] at y2 ⊢ <;> omega
theorem of_ref {l : Lf} (h : leafE l = true) (a n : Nat) : ((nbI a l.lv).toNat : Int) = numI a - numI a % pagI l.lv := by
  unfold leafE at h
  rw [decide_eq_true_iff] at h
  rw [← nb_eq h.1 h.2.1]
  have := nb_lt a l.lv
  omega
structure LeafV (l : Lf) : Prop where
  l0 : 0 ≤ l.lv
  l2 : l.lv ≤ 2
  pp : l.pt.pp < 17592186044416
  pm : (l.pt.pp : Int) % pagI l.lv = 0
theorem leaf_v {l : Lf} (h : leafE l = true) : LeafV l := by
  unfold leafE at h
  rw [decide_eq_true_iff] at h
  exact ⟨h.1, h.2.1, h.2.2.1, h.2.2.2⟩

/-! what follows -/
theorem ofE_v (l : Lf) (a n : Nat) : (ofE l a n).v = true ∧ (ofE l a n).l = l.lv ∧ (ofE l a n).pp = l.pt.pp ∧ (ofE l a n).n = n ∧ (ofE l a n).g = l.pt.g ∧ ((ofE l a n).vp : Int) = nbI a l.lv := by
  refine ⟨rfl, rfl, rfl, rfl, rfl, ?_⟩
  have := nb_lt a l.lv
  show ((nbI a l.lv).toNat : Int) = _
  omega
theorem ofE_may {l : Lf} (h : leafE l = true) (a : Nat) {n : Nat} (hn : n < 65536) : mayE (ofE l a n) = true := by
  have k := leaf_v h
  obtain ⟨h1, h2, h3, h4, h5, h6⟩ := ofE_v l a n
  have := nb_lt a l.lv
  refine v_may ⟨?_, ?_, ?_, ?_, ?_, ?_, ?_⟩ h1
  · rw [h2]; exact k.l0
  · rw [h2]; exact k.l2
  · omega
  · rw [h3]; exact k.pp
  · rw [h4]; exact hn
  · rw [h6, h2]; exact nb_mod k.l0 k.l2
  · rw [h3, h2]; exact k.pm
theorem bas_iff {a b l : Int} (l0 : 0 ≤ l) (l2 : l ≤ 2) (a0 : 0 ≤ a) (a1 : a < 18446744073709551616) (b0 : 0 ≤ b) (b1 : b < 18446744073709551616) (ha : vaB a = true) (hb : vaB b = true) : (nbI a l == nbI b l) = (basI a l == basI b l) := by
  unfold vaB at ha hb
  rw [Bool.or_eq_true, decide_eq_true_iff, decide_eq_true_iff] at ha hb
  rw [Bool.eq_iff_iff, beq_iff_eq, beq_iff_eq]
  unfold nbI numI basI
  rcases level_lt l0 l2 with rfl | rfl | rfl
  · rw [siz0]; omega
  · rw [siz1]; omega
  · rw [siz2]; omega
theorem ofE_cov {l : Lf} (h : leafE l = true) {a b : Nat} (n : Nat) (a1 : a < 18446744073709551616) (b1 : b < 18446744073709551616) (ha : vaB a = true) (hb : vaB b = true) : covE (ofE l a n) b = (basI a l.lv == basI b l.lv) := by
  have k := leaf_v h
  obtain ⟨h1, h2, h3, h4, h5, h6⟩ := ofE_v l a n
  unfold covE
  rw [h1, h2, h6, hb, bas_iff k.l0 k.l2 (by omega) (by omega) (by omega) (by omega) ha hb]
  simp
theorem ofE_cova {l : Lf} (h : leafE l = true) {a : Nat} (n : Nat) (a1 : a < 18446744073709551616) (ha : vaB a = true) : covE (ofE l a n) a = true := by
  rw [ofE_cov h n a1 a1 ha ha]; simp
theorem ofE_phy (l : Lf) (a n : Nat) (b : Int) : phyE (ofE l a n) b = (l.pt.pp : Int) * 4096 + offI b l.lv := by
  obtain ⟨h1, h2, h3, h4, h5, h6⟩ := ofE_v l a n
  unfold phyE
  rw [h2, h3]
theorem ofE_mat {l : Lf} (a n : Nat) (m b : Int) : matE (ofE l a n) m b = (covE (ofE l a n) b && (l.pt.g || ((n : Int) == m))) := by
  obtain ⟨h1, h2, h3, h4, h5, h6⟩ := ofE_v l a n
  unfold matE
  rw [h4, h5]
theorem over_swap (e f : En) : overE f e = overE e f := by
  unfold overE
  cases e.v <;> cases f.v <;> simp [Bool.or_comm]
/-- both cover an address, so they are over one another -/
theorem over_cov {e f : En} (h : mayE e = true) (k : mayE f = true) {a : Int} (he : covE e a = true) (hf : covE f a = true) : overE e f = true := by
  have ha : vaB a = true := by
    unfold covE at he
    cases hb : vaB a
    · rw [hb] at he; simp at he
    · rfl
  rw [cov_ref h ha] at he
  rw [cov_ref k ha] at hf
  rw [over_ref h k]
  simp only [Bool.and_eq_true, decide_eq_true_iff] at he hf ⊢
  exact ⟨he.1, hf.1, by omega, by omega⟩
theorem over_self {e : En} (h : mayE e = true) : overE e e = e.v := by
  cases hv : e.v
  · unfold overE; rw [hv]; rfl
  · have k := may_v h hv
    rw [over_ref h h, hv]
    have : 0 < pagI e.l := by rcases pag_is k.l0 k.l2 with ⟨_, h⟩ | ⟨_, h⟩ | ⟨_, h⟩ <;> omega
    simp; omega
theorem cov_own {e : En} (h : mayE e = true) (hv : e.v = true) : covE e (ofI e.vp) = true := by
  have k := may_v h hv
  unfold covE
  rw [hv, of_va, nb_of k _ k.l0 k.l2, k.vm]
  simp
theorem over_one {e f : En} (h : mayE e = true) (k : mayE f = true) (ho : overE e f = true) : e.v = true ∧ f.v = true ∧ (covE f (ofI e.vp) = true ∨ covE e (ofI f.vp) = true) := by
  unfold overE at ho
  simp only [Bool.and_eq_true, Bool.or_eq_true] at ho
  exact ⟨ho.1, ho.2.1, ho.2.2.symm⟩
theorem over_same {e f : En} (h : mayE e = true) (k : mayE f = true) (he : e.v = true) (hf : f.v = true) (hl : e.l = f.l) : overE e f = ((e.vp : Int) == f.vp) := by
  have x := may_v h he
  have y := may_v k hf
  have x2 := x.vm
  have y2 := y.vm
  rw [over_ref h k, he, hf, Bool.eq_iff_iff, beq_iff_eq]
  simp only [Bool.true_and, Bool.and_eq_true, decide_eq_true_iff]
  rw [hl] at x2 ⊢
  rcases pag_is y.l0 y.l2 with ⟨_, h⟩ | ⟨_, h⟩ | ⟨_, h⟩ <;> rw [h] at x2 y2 ⊢ <;> omega
/-- an entry's pages: the first, the last, and those beside -/
theorem cov_at {e : En} (h : mayE e = true) (hv : e.v = true) (n : Int) : covE e (ofI n) = (decide ((e.vp : Int) ≤ n % 134217728) && decide (n % 134217728 < (e.vp : Int) + pagI e.l)) := by
  rw [cov_ref h (of_va n), hv, num_of, Bool.true_and]
theorem pag_pos {l : Int} (l0 : 0 ≤ l) (l2 : l ≤ 2) : 1 ≤ pagI l ∧ pagI l ≤ 262144 := by
  rcases pag_is l0 l2 with ⟨_, h⟩ | ⟨_, h⟩ | ⟨_, h⟩ <;> omega
theorem cov_last {e : En} (h : mayE e = true) (hv : e.v = true) : covE e (ofI (e.vp + pagI e.l - 1)) = true := by
  have k := may_v h hv
  rw [cov_at h hv, Bool.and_eq_true, decide_eq_true_iff, decide_eq_true_iff]
  have := k.vp
  have x := k.vm
  rcases pag_is k.l0 k.l2 with ⟨_, h⟩ | ⟨_, h⟩ | ⟨_, h⟩ <;> rw [h] at x ⊢ <;> omega
theorem cov_ahead {e : En} (h : mayE e = true) (hv : e.v = true) : covE e (ofI (e.vp + 134217728 - 1)) = false := by
  have k := may_v h hv
  rw [cov_at h hv, Bool.and_eq_false_iff, decide_eq_false_iff_not, decide_eq_false_iff_not]
  have := k.vp
  have x := k.vm
  rcases pag_is k.l0 k.l2 with ⟨_, h⟩ | ⟨_, h⟩ | ⟨_, h⟩ <;> rw [h] at x ⊢ <;> omega
theorem cov_behind {e : En} (h : mayE e = true) (hv : e.v = true) : covE e (ofI (e.vp + pagI e.l)) = false := by
  have k := may_v h hv
  rw [cov_at h hv, Bool.and_eq_false_iff, decide_eq_false_iff_not, decide_eq_false_iff_not]
  have := k.vp
  have x := k.vm
  rcases pag_is k.l0 k.l2 with ⟨_, h⟩ | ⟨_, h⟩ | ⟨_, h⟩ <;> rw [h] at x ⊢ <;> omega
theorem off_of {l n : Int} (l0 : 0 ≤ l) (l2 : l ≤ 2) : offI (ofI n) l = n % pagI l * 4096 := by
  unfold offI ofI
  rcases level_lt l0 l2 with rfl | rfl | rfl
  · rw [siz0, pag0]; split <;> omega
  · rw [siz1, pag1]; split <;> omega
  · rw [siz2, pag2]; split <;> omega
theorem phy_first {e : En} (h : mayE e = true) (hv : e.v = true) : phyE e (ofI e.vp) = 4096 * (e.pp : Int) := by
  have k := may_v h hv
  unfold phyE
  rw [off_of k.l0 k.l2, k.vm]; omega
theorem phy_last {e : En} (h : mayE e = true) (hv : e.v = true) : phyE e (ofI (e.vp + pagI e.l - 1)) = 4096 * ((e.pp : Int) + pagI e.l - 1) := by
  have k := may_v h hv
  unfold phyE
  rw [off_of k.l0 k.l2]
  have x := k.vm
  rcases pag_is k.l0 k.l2 with ⟨_, h⟩ | ⟨_, h⟩ | ⟨_, h⟩ <;> rw [h] at x ⊢ <;> omega
theorem phy_lt {e : En} (h : mayE e = true) (a : Int) : 0 ≤ phyE e a ∧ phyE e a < 18446744073709551616 := by
  have k := may_lv h
  have k2 := (may_lt h).2.1
  have k3 := off_lt a e.l
  have k4 : sizI e.l ≤ 1073741824 := by
    rcases level_lt k.1 k.2 with h | h | h <;> rw [h] <;> first | (rw [siz0]; decide) | (rw [siz1]; decide) | (rw [siz2]; decide)
  unfold phyE
  omega
attribute [irreducible] upE pagI nbI mayE trimE covE matE phyE overE ofE leafE e0
end Go.Proofs.YtlhoedpencmikaaDoor
/- Package entry: number, Covers, Matches, Physical, Over. -/
namespace Go.Proofs.YtlhoedpencmikaaDoor
open Go.ChangeShapes Go.WideShapes Go.ChangeAt Go.RowKit
set_option linter.unusedVariables false
set_option linter.unusedSimpArgs false
set_option maxRecDepth 10000

theorem nbI_eq (a l : Int) : numI (basI a l) = nbI a l := by unfold nbI; rfl
theorem number12_c (a l : Int) (a0 : 0 ≤ a) (a1 : a < 18446744073709551616) (l0 : 0 ≤ l) (l2 : l ≤ 2) (w : World) (hT : Siz w) :
    Calls Tryd.prog 34 #[.int .u64 a, .int .i64 l] w fun e w' => e = .returned (.int .u64 (nbI a l)) ∧ w = w' := by
  obtain ⟨b0, b1⟩ := bas_lt (l := l) a0
  have H := Lib.hid (nbI_eq a l)
  go_enter Tryd.func34, Tryd.ntmps34
  go_wp2_with first | (go_at_call 62; refine (base5_c _ _ (by omega) (by omega) (by omega) (by omega) _ (by assumption)).mono ?_; rintro e w' ⟨rfl, rfl⟩) | (go_at_call 61; refine (number5_c _ (by omega) (by omega) _).mono ?_; rintro e w' ⟨rfl, rfl⟩)
  go_ret
  exact ⟨congrArg (fun b => Ending.returned (.int .u64 b)) H.out, rfl⟩

theorem covE_eq (e : En) (a : Int) : covE e a = (e.v && (vaB a && ((e.vp : Int) == nbI a e.l))) := by unfold covE; rfl
theorem matE_eq (e : En) (n a : Int) : matE e n a = (covE e a && (e.g || ((e.n : Int) == n))) := by unfold matE; rfl
theorem phyE_eq (e : En) (a : Int) : phyE e a = (e.pp : Int) * 4096 + offI a e.l := by unfold phyE; rfl
theorem overE_eq (e f : En) : overE e f = (e.v && (f.v && (covE e (ofI f.vp) || covE f (ofI e.vp)))) := by unfold overE; rfl
end Go.Proofs.YtlhoedpencmikaaDoor
/- Package entry: Of, trimmed, May. -/
namespace Go.Proofs.YtlhoedpencmikaaDoor
open Go.ChangeShapes Go.WideShapes Go.ChangeAt Go.RowKit
set_option linter.unusedVariables false
set_option linter.unusedSimpArgs false
set_option maxRecDepth 10000

theorem lfC_7 (l : Lf) : (lfC l)[7]? = some (.bool l.pt.g) := by simp only [lfC_eq, ptC_eq]; rfl
theorem lfC_9 (l : Lf) : (lfC l)[9]? = some (.bool l.pt.d) := by simp only [lfC_eq, ptC_eq]; rfl
theorem lfC_11 (l : Lf) : (lfC l)[11]? = some (.int .u64 (l.pt.pp : Int)) := by simp only [lfC_eq, ptC_eq]; rfl
theorem nb_cast (a l : Int) : nbI a l = (((nbI a l).toNat : Nat) : Int) := by have := nb_lt a l; omega
theorem ofE_build (l : Lf) (a n : Nat) : Tryd.prog.built 52 [(0, .bool true), (1, .int .u64 (n : Int)), (2, .bool l.pt.g), (3, .int .i64 l.lv), (4, .int .u64 (((nbI a l.lv).toNat : Nat) : Int)), (5, .int .u64 (l.pt.pp : Int)), (6, .agg (pmC (permP l.pt))), (7, .bool l.pt.d)] = some (enC (ofE l a n)) := by
  unfold ofE
  exact en_build ⟨true, n, l.pt.g, l.lv, (nbI a l.lv).toNat, l.pt.pp, permP l.pt, l.pt.d⟩
set_option maxHeartbeats 1000000 in
theorem of12_c (l : Lf) (l0 : 0 ≤ l.lv) (l2 : l.lv ≤ 2) (a n : Nat) (a1 : a < 18446744073709551616) (w : World) (hT : Siz w) :
    Calls Tryd.prog 19 #[.agg (lfC l), .int .u64 (a : Int), .int .u64 (n : Int)] w fun r w' => r = .returned (.agg (enC (ofE l a n))) ∧ Ext w w' := by
  obtain ⟨W0, hW⟩ : ∃ W0, W0 = (w.alloc (.cells (lfC l) 61)).alloc (.cells #[.bool false, .int .u64 0, .bool false, .int .i64 0, .int .u64 0, .int .u64 0, .bool false, .bool false, .bool false, .bool false, .bool false] 52) := ⟨_, rfl⟩
  have HE : Hid (Ext w W0) := Lib.hid (by rw [hW]; exact ((Ext.refl w).alloc _).alloc _)
  have h1 : Blk W0 w.heap.size 61 (lfC l) := by rw [hW]; exact (Blk.new w _ _).alloc _
  have h2 : Blk W0 (w.heap.size + 1) 52 #[.bool false, .int .u64 0, .bool false, .int .i64 0, .int .u64 0, .int .u64 0, .bool false, .bool false, .bool false, .bool false, .bool false] := by rw [hW]; exact blk_at (by simp)
  have HT := Lib.hid (hT.ext HE.out)
  have hnb := fun w h => number12_c (a : Int) l.lv (by omega) (by omega) l0 l2 w h
  have hpm := perm_c l.pt
  have hbd := ofE_build l a n
  have hps : w.heap.size + 2 ≤ W0.heap.size := by rw [hW]; simp
  rw [nb_cast] at hnb
  generalize (nbI a l.lv).toNat = v at hnb hbd
  generalize ofE l a n = e at hbd ⊢
  have HW := Lib.hid hW
  clear hW hT
  go_enter Tryd.func19, Tryd.ntmps19
  go_wp2_with fail
  rw [← HW.out]
  clear HW
  replace h1 := Blk.drew h1; replace h2 := Blk.drew h2; replace HE := Lib.hid HE.out.drew
  replace HT := Lib.hid (HT.out.ext (Ext.refl _).drew)
  refine wp_region_seq [(0, false), (1, false), (2, false), (3, false), (4, false), (5, false), (6, false), (7, false), (8, false), (10, false), (11, false), (12, false), (13, false), (14, false), (16, false), (17, false), (18, false), (9, true), (15, true), (19, false), (20, true)] (Gap (w.heap.size + 1) (w.heap.size + 2)) (by kernel_rfl) (by kernel_rfl) (Gap.refl _ _) (fun _ _ _ => Gap.trans) ?_; simp only [List.map, nth_z, nth_s]
  (repeat ((refine seq_read (by rfl) (by rfl) ?_; intro K hK; go_big_quiet_op; first | go_big_quiet_on | (refine ⟨_, fun _ _ => rfl, ?_⟩; go_big_quiet_on))))
  refine seq_value (.bool l.pt.g) (by rfl) (fun x hx => by have hq := ((Gap.blk hx (h1) (by omega)).cell 7).trans (lfC_7 l); simp [go_sem, execOp, Act.eval, hq]) ?_; intro K hK; simp only [Act.put, List.setIfInBounds_toArray, List.set_cons_zero, List.set_cons_succ]; refine hK _ ?_; clear hK K
  (repeat ((refine seq_read (by rfl) (by rfl) ?_; intro K hK; go_big_quiet_op; (refine ⟨_, fun _ _ => rfl, ?_⟩; go_big_quiet_on))))
  refine seq_value (.int .i64 l.lv) (by rfl) (fun x hx => by have hq := ((Gap.blk hx (h1) (by omega)).cell 0).trans (lfC_lv l); simp [go_sem, execOp, Act.eval, hq]) ?_; intro K hK; simp only [Act.put, List.setIfInBounds_toArray, List.set_cons_zero, List.set_cons_succ]; refine hK _ ?_; clear hK K
  (repeat ((refine seq_read (by rfl) (by rfl) ?_; intro K hK; go_big_quiet_op; first | go_big_quiet_on | (refine ⟨_, fun _ _ => rfl, ?_⟩; go_big_quiet_on))))
  refine seq_value (.int .i64 l.lv) (by rfl) (fun x hx => by have hq := ((Gap.blk hx (h1) (by omega)).cell 0).trans (lfC_lv l); simp [go_sem, execOp, Act.eval, hq]) ?_; intro K hK; simp only [Act.put, List.setIfInBounds_toArray, List.set_cons_zero, List.set_cons_succ]; refine hK _ ?_; clear hK K
  (repeat ((refine seq_read (by rfl) (by rfl) ?_; intro K hK; go_big_quiet_op; (refine ⟨_, fun _ _ => rfl, ?_⟩; go_big_quiet_on))))
  refine seq_value (.int .u64 (l.pt.pp : Int)) (by rfl) (fun x hx => by have hq := ((Gap.blk hx (h1) (by omega)).cell 11).trans (lfC_11 l); simp [go_sem, execOp, Act.eval, hq]) ?_; intro K hK; simp only [Act.put, List.setIfInBounds_toArray, List.set_cons_zero, List.set_cons_succ]; refine hK _ ?_; clear hK K
  (repeat ((refine seq_read (by rfl) (by rfl) ?_; intro K hK; go_big_quiet_op; (refine ⟨_, fun _ _ => rfl, ?_⟩; go_big_quiet_on))))
  refine seq_load_part rfl rfl ((fun x hx => Gap.blk hx h1 (by omega))) (lfC_pt l) rfl Tryd.underlying59 (pt_info _) (by rfl) ?_; intro K hK; simp only [Act.put, List.setIfInBounds_toArray, List.set_cons_zero, List.set_cons_succ]; refine hK _ ?_; clear hK K
  (repeat ((refine seq_read (by rfl) (by rfl) ?_; intro K hK; go_big_quiet_op; (refine ⟨_, fun _ _ => rfl, ?_⟩; go_big_quiet_on))))
  refine seq_value (.bool l.pt.d) (by rfl) (fun x hx => by have hq := ((Gap.blk hx (h1) (by omega)).cell 9).trans (lfC_9 l); simp [go_sem, execOp, Act.eval, hq]) ?_; intro K hK; simp only [Act.put, List.setIfInBounds_toArray, List.set_cons_zero, List.set_cons_succ]; refine hK _ ?_; clear hK K
  skip
  refine seq_call (calls_ext (hnb _ HT.out)) rfl Tryd.func34 (by kernel_rfl) (by kernel_rfl) (by rfl) (by rfl) ?_; intro K hK; rintro e w' ⟨rfl, hE⟩; refine ⟨_, rfl, (Gap.ext hE), ?_⟩; simp only [Act.put, List.setIfInBounds_toArray, List.set_cons_zero, List.set_cons_succ]; refine hK _ _ ?_; clear hK K; replace h1 := h1.ext hE; replace h2 := h2.ext hE; replace HT := Lib.hid (HT.out.ext hE); (replace HE := Lib.hid (HE.out.trans hE))
  clear hE
  refine seq_call (hpm _) rfl Tryd.func35 (by kernel_rfl) (by kernel_rfl) (by rfl) (by rfl) ?_; intro K hK; rintro e w' ⟨rfl, hE⟩; refine ⟨_, rfl, (Gap.ext hE), ?_⟩; simp only [Act.put, List.setIfInBounds_toArray, List.set_cons_zero, List.set_cons_succ]; refine hK _ _ ?_; clear hK K; replace h1 := h1.ext hE; replace h2 := h2.ext hE; replace HT := Lib.hid (HT.out.ext hE); (replace HE := Lib.hid (HE.out.trans hE))
  clear hE
  skip
  refine seq_build_as rfl (hbd) (by rfl) ?_; intro K hK; simp only [Act.put, List.setIfInBounds_toArray, List.set_cons_zero, List.set_cons_succ]; refine hK _ ?_; clear hK K
  refine seq_store_row rfl rfl rfl (h2) (en_info _) (by simp [enC_size]) (enC_one _) (by rfl) (Gap.row _ (by omega) (by omega) _) ?_; intro K hK; simp only [Act.put]; refine hK _ _ ?_; clear hK K
  refine seq_done ?_
  go_wp2
  refine bodyPost_ret (results_cell_row rfl _ _ _ _ _ _ _ rfl ((h2.row _)) Tryd.underlying52 rfl (en_info _)) rfl ?_
  exact ⟨rfl, HE.out.row (by omega) _⟩

def enN (p : En) (x : Nat) : En := { p with n := x }
def enVp (p : En) (x : Nat) : En := { p with vp := x }
def enPp (p : En) (x : Nat) : En := { p with pp := x }
theorem set_enN (p : En) (x : Nat) {y : Int} (h : y = (x : Int)) : (enC p).setIfInBounds 1 (.int .u64 y) = enC (enN p x) := by rw [h]; exact enC_set_n p x
theorem set_enVp (p : En) (x : Nat) {y : Int} (h : y = (x : Int)) : (enC p).setIfInBounds 4 (.int .u64 y) = enC (enVp p x) := by rw [h]; exact enC_set_vp p x
theorem set_enPp (p : En) (x : Nat) {y : Int} (h : y = (x : Int)) : (enC p).setIfInBounds 5 (.int .u64 y) = enC (enPp p x) := by rw [h]; exact enC_set_pp p x
theorem enN_at (p : En) (x : Nat) : (enN p x).l = p.l ∧ (enN p x).vp = p.vp ∧ (enN p x).pp = p.pp := ⟨rfl, rfl, rfl⟩
theorem enVp_at (p : En) (x : Nat) : (enVp p x).l = p.l ∧ (enVp p x).pp = p.pp := ⟨rfl, rfl⟩
theorem enPp_at (p : En) (x : Nat) : (enPp p x).l = p.l ∧ (enPp p x).pp = x := ⟨rfl, rfl⟩
theorem upE_eq (e : En) (n v p q : Nat) : enPp (enPp (enVp (enN e n) v) p) q = upE e n v q := by unfold upE enPp enVp enN; rfl
attribute [irreducible] enN enVp enPp
theorem e0_cells : enC e0 = #[.bool false, .int .u64 0, .bool false, .int .i64 0, .int .u64 0, .int .u64 0, .bool false, .bool false, .bool false, .bool false, .bool false] := by unfold e0; rw [enC_def, pmC_def]; rfl
theorem e0_build : Tryd.prog.built 52 [] = some (enC e0) := by rw [e0_cells]; kernel_rfl

end Go.Proofs.YtlhoedpencmikaaDoor
