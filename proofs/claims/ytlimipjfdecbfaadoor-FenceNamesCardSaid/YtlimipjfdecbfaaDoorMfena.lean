/- A fence (api.Fence): as values, as they come in, held against one another, stored and loaded whole. Written by mkstruct.py. -/
import Derived.Test.YtlimipjfdecbfaaDoorAgg
import Derived.Test.YtlimipjfdecbfaaDoorMtlba
namespace Go.Proofs.YtlimipjfdecbfaaDoor
open Go.ChangeShapes Go.WideShapes Go.ChangeAt Go.RowKit Go.Joins Go.Deep
set_option linter.unusedVariables false
set_option linter.unusedSimpArgs false
set_option maxRecDepth 10000

structure Fc where
  ha : Bool
  ad : Nat
  hn : Bool
  n : Nat
deriving DecidableEq
def Fc.ok (p : Fc) : Prop := p.ad < 18446744073709551616 ∧ p.n < 18446744073709551616
def fcC (p : Fc) : Array Value := #[.bool p.ha, .int .u64 (p.ad : Int), .bool p.hn, .int .u64 (p.n : Int)]
theorem fcC_def (ha : Bool) (ad : Nat) (hn : Bool) (n : Nat) : fcC ⟨ha, ad, hn, n⟩ = #[.bool ha, .int .u64 (ad : Int), .bool hn, .int .u64 (n : Int)] := rfl
theorem fcC_eq (p : Fc) : fcC p = #[.bool p.ha, .int .u64 (p.ad : Int), .bool p.hn, .int .u64 (p.n : Int)] := rfl
theorem fcC_size (p : Fc) : (fcC p).size = 4 := rfl
theorem fcC_one (p : Fc) : (fcC p).all (·.oneCell') = true := by simp [fcC, Value.oneCell']
theorem fc_info (p : Fc) : (Tryd.prog.info? 24).map (·.size) = some (fcC p).size := by rw [fcC_size]; kernel_rfl
theorem Blk.fc {w : World} {g : Nat} {t : TypeId} {p : Fc} (h : Blk w g t (fcC p)) : w.cell? ⟨g, 0, none⟩ = some (.bool p.ha) ∧ w.cell? ⟨g, 1, none⟩ = some (.int .u64 (p.ad : Int)) ∧ w.cell? ⟨g, 2, none⟩ = some (.bool p.hn) ∧ w.cell? ⟨g, 3, none⟩ = some (.int .u64 (p.n : Int)) := ⟨h.cell 0, h.cell 1, h.cell 2, h.cell 3⟩
attribute [irreducible] fcC

theorem fc_array {α : Type} {cs : Array α} (h : cs.size = 4) : ∃ c0 c1 c2 c3, cs = #[c0, c1, c2, c3] := by
  obtain ⟨l⟩ := cs
  match l, h with
  | [c0, c1, c2, c3], _ => exact ⟨c0, c1, c2, c3, rfl⟩
theorem open_fc {H : Type} {enc : TypeId × Value → H} {W : World} {b0 : Nat} {v : Value} {d : DataW H} {p : List MemPlace} (hv : Value.okWide Tryd.prog W .any b0 24 v) (h : DataW.Trod enc Tryd.prog W 0 (fun _ => true) true 24 v d p) :
    ∃ P : Fc, v = .agg (fcC P) ∧ P.ok := by
  obtain ⟨cs, rfl, hsz, n, hf⟩ := open_aggs Tryd.underlying24 (by kernel_rfl) (by kernel_rfl) hv h
  obtain ⟨c0, c1, c2, c3, rfl⟩ := fc_array hsz
  obtain ⟨_, h0⟩ := hf 0 _ _ rfl rfl
  obtain ⟨_, h1⟩ := hf 1 _ _ rfl rfl
  obtain ⟨_, h2⟩ := hf 2 _ _ rfl rfl
  obtain ⟨_, h3⟩ := hf 3 _ _ rfl rfl
  obtain ⟨z0, rfl⟩ := open_boolf Tryd.underlying4 h0
  obtain ⟨z1, rfl, w1⟩ := open_u64f Tryd.underlying22 h1
  obtain ⟨z2, rfl⟩ := open_boolf Tryd.underlying4 h2
  obtain ⟨z3, rfl, w3⟩ := open_u64f Tryd.underlying22 h3
  exact ⟨⟨z0, z1, z2, z3⟩, by rw [fcC_def], w1, w3⟩

theorem eqlIn_fc (D0 : Nat) (w : World) (p q : Fc) : (Op.equalIn (D0 + 1 + 1) 24 (.agg (fcC p)) (.agg (fcC q))).run Tryd.prog w = .ok (decide (p = q)) w := by
  have hp : Tryd.prog.stoodInHeld 24 = false := by kernel_rfl
  rw [run_equalIn_agg w _ _ _ _ (by simp [Program.fieldsOf, Tryd.underlying24]) hp, fcC_eq p, fcC_eq q]
  have hd : decide (p = q) = (p.ha == q.ha && ((p.ad : Int) == q.ad && (p.hn == q.hn && ((p.n : Int) == q.n && true)))) := by
    obtain ⟨ha, ad, hn, n⟩ := p
    obtain ⟨ha', ad', hn', n'⟩ := q
    rw [Bool.eq_iff_iff]
    simp
    intro _
    constructor <;> rintro ⟨h1, h2, h3⟩ <;> exact ⟨by omega, h2, by omega⟩
  rw [hd]
  have h_bool : ∀ a b : Bool, (Op.equalIn (D0 + 1) 4 (.bool a) (.bool b)).run Tryd.prog w = .ok (a == b) w := fun a b => run_equalIn_bool' w D0 _ _ _ Tryd.underlying4
  have h_u64 : ∀ a b : Int, (Op.equalIn (D0 + 1) 22 (.int .u64 a) (.int .u64 b)).run Tryd.prog w = .ok (a == b) w := fun a b => run_equalIn_int w D0 _ _ _ _ _ Tryd.underlying22
  generalize D0 + 1 = D at h_bool h_u64 ⊢
  have key : (Op.eqFields D #[.bool p.ha, .int .u64 (p.ad : Int), .bool p.hn, .int .u64 (p.n : Int)] #[.bool q.ha, .int .u64 (q.ad : Int), .bool q.hn, .int .u64 (q.n : Int)] (Program.fieldsOf Tryd.prog 24).toList).run Tryd.prog w = .ok (p.ha == q.ha && ((p.ad : Int) == q.ad && (p.hn == q.hn && ((p.n : Int) == q.n && true)))) w := by
    simp only [Program.fieldsOf, Tryd.underlying24]
    refine run_eqF ?_ (part_bool (by simp)) (part_bool (by simp)) (h_bool _ _) ?_
    · simp
    refine run_eqF ?_ (part_u64 (by simp)) (part_u64 (by simp)) (h_u64 _ _) ?_
    · simp
    refine run_eqF ?_ (part_bool (by simp)) (part_bool (by simp)) (h_bool _ _) ?_
    · simp
    refine run_eqF ?_ (part_u64 (by simp)) (part_u64 (by simp)) (h_u64 _ _) ?_
    · simp
    simp [Op.eqFields, Sem.run_pure]
  first
    | exact key
    | (simp only [Program.fieldsOf, Tryd.underlying24] at key ⊢; exact key)
theorem eql_fc (w : World) (p q : Fc) : (binOp .eql 24 (.agg (fcC p)) (.agg (fcC q))).run Tryd.prog w = .ok (.bool (decide (p = q))) w := by
  rw [run_eql_struct, show (10000 : Nat) = 9998 + 1 + 1 from rfl, eqlIn_fc 9998]; rfl
theorem neq_fc (w : World) (p q : Fc) : (binOp .neq 24 (.agg (fcC p)) (.agg (fcC q))).run Tryd.prog w = .ok (.bool (!decide (p = q))) w := neq_of_eql (eql_fc w p q)
theorem fc_guard : Tryd.prog.eqGuardType Tryd.prog.depth 24 = false := by kernel_rfl
end Go.Proofs.YtlimipjfdecbfaaDoor
/- Fences over buffers as lists of sets: named, done, one behind another; and what follows. No program. -/
namespace Go.Proofs.YtlimipjfdecbfaaDoor
set_option linter.unusedVariables false
set_option linter.unusedSimpArgs false

/-- is it named? -/
def namF (f : Fc) (e : En) : Bool := e.v && ((!f.ha || covE e f.ad) && (!f.hn || (!e.g && ((e.n : Int) == f.n))))
theorem nam_eq (f : Fc) (e : En) : namF f e = (e.v && ((!f.ha || covE e f.ad) && (!f.hn || (!e.g && ((e.n : Int) == f.n))))) := by unfold namF; rfl
/-- the fences of both, of the number, of the address; of neither -/
def fOf (n a : Nat) : Fc := ⟨true, a, true, n⟩
def fAs (n : Nat) : Fc := ⟨false, 0, true, n⟩
def fAd (a : Nat) : Fc := ⟨true, a, false, 0⟩
def fc0 : Fc := ⟨false, 0, false, 0⟩
theorem nam_of (n a : Nat) (e : En) : namF (fOf n a) e = (namF (fAs n) e && namF (fAd a) e) := by
  simp only [nam_eq, fOf, fAs, fAd]
  cases e.v <;> cases covE e a <;> cases e.g <;> simp
theorem nam_as {n : Nat} {e : En} (h : namF (fAs n) e = true) : e.g = false ∧ (e.n : Int) = n := by
  rw [nam_eq] at h
  simp only [fAs, Bool.and_eq_true, Bool.or_eq_true, Bool.not_eq_true', beq_iff_eq] at h
  simpa using h.2
theorem nam_ad (a : Nat) (e : En) : namF (fAd a) e = covE e a := by
  rw [nam_eq]
  simp only [fAd]
  cases hc : covE e a
  · simp
  · rw [cov_valid hc]; rfl
theorem nam_0 (e : En) : namF fc0 e = e.v := by
  rw [nam_eq]
  simp [fc0]
/-- every way by itself -/
def mapW (h : En → En) (s : Ws) : Ws := ⟨h s.a, h s.b, h s.c, h s.d⟩
theorem mapW_at (h : En → En) (s : Ws) {k : Nat} (hk : k < 4) : (mapW h s).at k = h (s.at k) := by
  rcases k_four hk with rfl | rfl | rfl | rfl <;> rfl
/-- the ways that p tells, let go -/
def zapW (p : En → Bool) (s : Ws) : Ws := mapW (fun e => if p e then e0 else e) s
def zapS (p : En → Bool) (s : St) : St := ⟨zapW p s.ws, s.t⟩
def zapT (p : En → Bool) (L : List St) : List St := L.map (zapS p)
theorem zapW_at (p : En → Bool) (s : Ws) {k : Nat} (hk : k < 4) : (zapW p s).at k = if p (s.at k) then e0 else s.at k := mapW_at _ s hk
/-- the first q ways of a set -/
def zapQ (p : En → Bool) : Nat → St → St
  | 0, s => s
  | q + 1, s => if p (s.ws.at q) then (zapQ p q s).put q e0 else zapQ p q s
theorem zapQ_0 (p : En → Bool) (s : St) : zapQ p 0 s = s := rfl
theorem zapQ_s (p : En → Bool) (q : Nat) (s : St) : zapQ p (q + 1) s = if p (s.ws.at q) then (zapQ p q s).put q e0 else zapQ p q s := rfl
theorem zapQ_at (p : En → Bool) (s : St) : ∀ {q : Nat}, q ≤ 4 → ∀ {k : Nat}, k < 4 → (zapQ p q s).ws.at k = if k < q ∧ p (s.ws.at k) = true then e0 else s.ws.at k
  | 0, _, k, _ => by rw [if_neg (by omega)]; rfl
  | q + 1, hq, k, hk => by
    have ih := zapQ_at p s (q := q) (by omega) hk
    rw [zapQ_s]
    by_cases hp : p (s.ws.at q) = true
    · rw [if_pos hp]
      show ((zapQ p q s).ws.put q e0).at k = _
      rw [at_put (by omega) hk]
      by_cases h : k = q
      · subst h; rw [if_pos rfl, if_pos ⟨by omega, hp⟩]
      · rw [if_neg h, ih]
        by_cases h2 : k < q ∧ p (s.ws.at k) = true
        · rw [if_pos h2, if_pos ⟨by omega, h2.2⟩]
        · rw [if_neg h2, if_neg (fun h3 => h2 ⟨by omega, h3.2⟩)]
    · rw [if_neg hp, ih]
      by_cases h2 : k < q ∧ p (s.ws.at k) = true
      · rw [if_pos h2, if_pos ⟨by omega, h2.2⟩]
      · rw [if_neg h2, if_neg (fun h3 => by
          rcases Nat.lt_or_ge k q with h4 | h4
          · exact h2 ⟨h4, h3.2⟩
          · obtain rfl : k = q := by omega
            exact hp h3.2)]
theorem zapQ_t (p : En → Bool) (s : St) : ∀ q, (zapQ p q s).t = s.t
  | 0 => rfl
  | q + 1 => by
    rw [zapQ_s]
    split
    · exact zapQ_t p s q
    · exact zapQ_t p s q
theorem zapQ_own (p : En → Bool) (s : St) {q : Nat} (hq : q < 4) : (zapQ p q s).ws.at q = s.ws.at q := by rw [zapQ_at p s (by omega) hq, if_neg (by omega)]
theorem zapQ_4 (p : En → Bool) (s : St) : zapQ p 4 s = zapS p s := by
  have h : (zapQ p 4 s).ws = zapW p s.ws := ws_ext fun k hk => by
    rw [zapQ_at p s (by omega) hk, zapW_at p _ hk]
    by_cases hp : p (s.ws.at k) = true
    · rw [if_pos ⟨hk, hp⟩, if_pos hp]
    · rw [if_neg (fun h => hp h.2), if_neg hp]
  have h2 := zapQ_t p s 4
  unfold zapS
  rw [← h, ← h2]
theorem zapT_len (p : En → Bool) (L : List St) : (zapT p L).length = L.length := by simp [zapT]
theorem sT_zap (p : En → Bool) {L : List St} {i : Nat} (hi : i < L.length) : sT (zapT p L) i = zapS p (sT L i) := by
  unfold sT zapT
  simp [List.getD, hi]
theorem zapT_take (p : En → Bool) {L : List St} {k : Nat} (hk : k < L.length) : zapT p (L.take (k + 1)) = zapT p (L.take k) ++ [zapS p (sT L k)] := by
  have h3 : L.take (k + 1) = L.take k ++ [sT L k] := by unfold sT; rw [List.take_add_one]; simp [List.getD, hk]
  unfold zapT
  rw [h3, List.map_append]; rfl
/-- the sets ahead of i done, and of i's ways the first q -/
def pzT (p : En → Bool) (L : List St) (i q : Nat) : List St := (List.range L.length).map fun j => if j < i then zapS p (sT L j) else if j = i then zapQ p q (sT L j) else sT L j
theorem pzT_len (p : En → Bool) (L : List St) (i q : Nat) : (pzT p L i q).length = L.length := by simp [pzT]
theorem sT_pz (p : En → Bool) {L : List St} {i q j : Nat} (hj : j < L.length) : sT (pzT p L i q) j = if j < i then zapS p (sT L j) else if j = i then zapQ p q (sT L j) else sT L j := by
  have h : sT (pzT p L i q) j = (pzT p L i q).getD j s0 := by unfold sT; rfl
  rw [h]
  simp [pzT, List.getD, hj]
theorem sT_ext {L M : List St} (hl : L.length = M.length) (h : ∀ j, j < L.length → sT L j = sT M j) : L = M := by
  refine List.ext_getElem hl fun j h1 h2 => ?_
  have := h j h1
  unfold sT at this
  simpa [List.getD, h1, h2] using this
theorem pzT_0 (p : En → Bool) (L : List St) : pzT p L 0 0 = L := by
  refine sT_ext (pzT_len _ _ _ _) fun j hj => ?_
  rw [pzT_len] at hj
  rw [sT_pz p hj, if_neg (by omega)]
  split <;> rfl
theorem pzT_4 (p : En → Bool) (L : List St) (i : Nat) : pzT p L i 4 = pzT p L (i + 1) 0 := by
  refine sT_ext (by rw [pzT_len, pzT_len]) fun j hj => ?_
  rw [pzT_len] at hj
  rw [sT_pz p hj, sT_pz p hj]
  by_cases h1 : j < i
  · rw [if_pos h1, if_pos (by omega)]
  · rw [if_neg h1]
    by_cases h2 : j = i
    · rw [if_pos h2, if_pos (by omega), zapQ_4]
    · rw [if_neg h2, if_neg (by omega)]
      split <;> rfl
theorem pzT_end (p : En → Bool) (L : List St) : pzT p L L.length 0 = zapT p L := by
  refine sT_ext (by rw [pzT_len, zapT_len]) fun j hj => ?_
  rw [pzT_len] at hj
  rw [sT_pz p hj, if_pos hj, sT_zap p hj]
theorem pzT_keep (p : En → Bool) {L : List St} {i q : Nat} (h : p ((sT L i).ws.at q) = false) : pzT p L i (q + 1) = pzT p L i q := by
  refine sT_ext (by rw [pzT_len, pzT_len]) fun j hj => ?_
  rw [pzT_len] at hj
  rw [sT_pz p hj, sT_pz p hj]
  by_cases h1 : j < i
  · rw [if_pos h1, if_pos h1]
  · rw [if_neg h1, if_neg h1]
    by_cases h2 : j = i
    · subst h2; rw [if_pos rfl, if_pos rfl, zapQ_s, if_neg (by rw [h]; decide)]
    · rw [if_neg h2, if_neg h2]
theorem pzT_drop (p : En → Bool) {L : List St} {i q : Nat} (hi : i < L.length) (h : p ((sT L i).ws.at q) = true) : dropT (pzT p L i q) i q = pzT p L i (q + 1) := by
  have hd : dropT (pzT p L i q) i q = (pzT p L i q).set i ((sT (pzT p L i q) i).put q e0) := by unfold dropT; rfl
  rw [hd]
  refine sT_ext (by rw [List.length_set, pzT_len, pzT_len]) fun j hj => ?_
  rw [List.length_set, pzT_len] at hj
  rw [sT_set (by rw [pzT_len]; exact hi), sT_pz p hi, sT_pz p hj, sT_pz p hj]
  by_cases h2 : j = i
  · subst h2
    rw [if_pos rfl, if_neg (Nat.lt_irrefl _), if_pos rfl, if_neg (Nat.lt_irrefl _), if_pos rfl, zapQ_s, if_pos h]
  · rw [if_neg h2]
    by_cases h1 : j < i
    · rw [if_pos h1, if_pos h1]
    · rw [if_neg h1, if_neg h1, if_neg h2, if_neg h2]
theorem nam_v {f : Fc} {e : En} (h : namF f e = true) : e.v = true := by
  unfold namF at h
  rw [Bool.and_eq_true] at h
  exact h.1
theorem nam_e0 (f : Fc) : namF f e0 = false := by
  cases h : namF f e0
  · rfl
  · have := nam_v h; rw [e0_v] at this; cases this
/-- one let go behind another: both at once -/
theorem zapW_zapW {p q : En → Bool} (hq : q e0 = false) (s : Ws) : zapW q (zapW p s) = zapW (fun e => p e || q e) s := by
  refine ws_ext fun k hk => ?_
  rw [zapW_at _ _ hk, zapW_at _ _ hk, zapW_at _ _ hk]
  cases p (s.at k)
  · simp
  · simp [hq]
theorem zapT_zapT {p q : En → Bool} (hq : q e0 = false) (L : List St) : zapT q (zapT p L) = zapT (fun e => p e || q e) L := by
  unfold zapT
  rw [List.map_map]
  congr 1
  funext s
  simp only [Function.comp]
  unfold zapS
  rw [zapW_zapW hq]
theorem zapT_none {p : En → Bool} (h : ∀ e, p e = false) (L : List St) : zapT p L = L := by
  unfold zapT
  have : zapS p = id := by
    funext s
    unfold zapS
    have : zapW p s.ws = s.ws := ws_ext fun k hk => by rw [zapW_at _ _ hk, h]; rfl
    rw [this]; rfl
  rw [this, List.map_id]
theorem zapT_congr {p q : En → Bool} (h : ∀ e, p e = q e) (L : List St) : zapT p L = zapT q L := by rw [show p = q from funext h]
/-- a buffer behind a fence, behind fences -/
def doF (f : Fc) (L : List St) : List St := zapT (namF f) L
def anyF (l : List Fc) (e : En) : Bool := l.any fun f => namF f e
def allF (l : List Fc) (L : List St) : List St := zapT (anyF l) L
theorem any_e0 (l : List Fc) : anyF l e0 = false := by
  unfold anyF
  rw [List.any_eq_false]
  intro f _
  rw [nam_e0]; decide
theorem allF_nil (L : List St) : allF [] L = L := zapT_none (fun _ => rfl) L
theorem allF_one (f : Fc) (L : List St) : allF [f] L = doF f L := zapT_congr (fun e => by simp [anyF]) L
theorem allF_snoc (l : List Fc) (f : Fc) (L : List St) : allF (l ++ [f]) L = doF f (allF l L) := by
  unfold doF allF
  rw [zapT_zapT (nam_e0 f)]
  exact zapT_congr (fun e => by simp [anyF]) L
theorem allF_swap (f g : Fc) (L : List St) : allF [f, g] L = allF [g, f] L := zapT_congr (fun e => by simp [anyF, Bool.or_comm]) L
theorem doF_twice (f : Fc) (L : List St) : doF f (doF f L) = doF f L := by
  unfold doF
  rw [zapT_zapT (nam_e0 f)]
  exact zapT_congr (fun e => by simp) L
theorem allF_len (l : List Fc) (L : List St) : (allF l L).length = L.length := zapT_len _ L
theorem doF_len (f : Fc) (L : List St) : (doF f L).length = L.length := zapT_len _ L
/-- right stays right -/
theorem rt_zap {L : List St} (h : rightT L = true) (p : En → Bool) : rightT (zapT p L) = true := by
  refine rt_of (by rw [zapT_len]; exact rt_len h) fun i hi => ?_
  rw [zapT_len] at hi ⊢
  rw [sT_zap p hi]
  have hr := rt_at h hi
  refine rightAt_of ?_ fun k hk => ?_
  · refine right_of (s := zapS p (sT L i)) (show (sT L i).t < 8 from right_t (rightAt_s hr)) fun k hk => ?_
    show mayE ((zapW p (sT L i).ws).at k) = true
    rw [zapW_at _ _ hk]
    split
    · exact may_e0
    · exact right_may (rightAt_s hr) hk
  · show inT L.length i ((zapW p (sT L i).ws).at k) = true
    rw [zapW_at _ _ hk]
    split
    · exact in_e0 _ _
    · exact in_at hr hk
theorem rt_doF {L : List St} (h : rightT L = true) (f : Fc) : rightT (doF f L) = true := rt_zap h _
theorem rt_allF {L : List St} (h : rightT L = true) (l : List Fc) : rightT (allF l L) = true := rt_zap h _
/-- the entries that are left -/
theorem ls_zap (p : En → Bool) (s : Ws) : lsW (zapW p s) = (lsW s).filter fun e => !p e := by
  unfold lsW zapW mapW
  have h : ∀ e : En, ([if p e then e0 else e].filter (·.v)) = ([e].filter (·.v)).filter fun e => !p e := fun e => by
    cases hp : p e <;> cases hv : e.v <;> simp [hp, hv, e0_v]
  have hs : ∀ a b c d : En, [a, b, c, d].filter (·.v) = [a].filter (·.v) ++ ([b].filter (·.v) ++ ([c].filter (·.v) ++ [d].filter (·.v))) := fun a b c d => by simp [← List.filter_append]
  rw [hs, hs, h, h, h, h, List.filter_append, List.filter_append, List.filter_append]
theorem all_zap (p : En → Bool) : ∀ L : List St, allT (zapT p L) = (allT L).filter fun e => !p e
  | [] => by unfold allT zapT; rfl
  | s :: L => by
    have ih := all_zap p L
    unfold allT zapT at ih ⊢
    rw [List.map_cons, List.flatMap_cons, List.flatMap_cons, List.filter_append, ih]
    congr 1
    exact ls_zap p s.ws
theorem all_v {L : List St} {e : En} (h : e ∈ allT L) : e.v = true := by
  unfold allT at h
  rw [List.mem_flatMap] at h
  obtain ⟨s, _, h⟩ := h
  exact (mem_ls h).1
/-- behind a fence of an address nothing is found there -/
theorem zap_hit {p : En → Bool} {L : List St} {n a : Int} (h : okT n a (zapT p L) = true) : p (enT n a (zapT p L)) = false ∧ covE (enT n a (zapT p L)) a = true ∧ ((enT n a (zapT p L)).g = true ∨ ((enT n a (zapT p L)).n : Int) = n) := by
  have F := found h
  have hm := mat_split (hit_split F.hit).2
  have ho := F.own
  have hil := F.il
  rw [zapT_len] at hil
  rw [sT_zap p hil] at ho
  have hw : (zapS p (sT L (seT n a (zapT p L)))).ws.at (wyT n a (zapT p L)) = if p ((sT L (seT n a (zapT p L))).ws.at (wyT n a (zapT p L))) then e0 else (sT L (seT n a (zapT p L))).ws.at (wyT n a (zapT p L)) := zapW_at p _ F.wl
  rw [hw] at ho
  refine ⟨?_, hm⟩
  split at ho
  · rw [← ho] at hm
    have := cov_valid hm.1
    rw [e0_v] at this; cases this
  · rename_i hn
    rw [← ho]
    simpa using hn
theorem ad_gone {L : List St} {n : Int} {a : Nat} : okT n a (doF (fAd a) L) = false := by
  cases h : okT n a (doF (fAd a) L)
  · rfl
  · have k := zap_hit (p := namF (fAd a)) h
    rw [nam_ad, k.2.1] at k
    cases k.1
theorem of_global {L : List St} {n a : Nat} (h : okT n a (doF (fOf n a) L) = true) : (enT n a (doF (fOf n a) L)).g = true := by
  have k := zap_hit (p := namF (fOf n a)) h
  rcases k.2.2 with hg | hn
  · exact hg
  · have h1 := k.1
    rw [nam_of, nam_ad] at h1
    change (namF (fAs n) (enT n a (doF (fOf n a) L)) && covE (enT n a (doF (fOf n a) L)) a) = false at h1
    have h2 := k.2.1
    change covE (enT n a (doF (fOf n a) L)) a = true at h2
    change ((enT n a (doF (fOf n a) L)).n : Int) = n at hn
    rw [h2, Bool.and_true, nam_eq, cov_valid h2] at h1
    simp only [fAs, hn] at h1
    simpa using h1
theorem do_none (L : List St) : allT (doF fc0 L) = [] := by
  unfold doF
  rw [all_zap, List.filter_eq_nil_iff]
  intro e he
  rw [nam_0, all_v he]; decide
attribute [irreducible] namF zapT zapS doF anyF allF pzT zapQ fOf fAs fAd
end Go.Proofs.YtlimipjfdecbfaaDoor
