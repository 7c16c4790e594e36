/- CauseApart. -/
import Derived.Test.YtlcdkejjojginaaDoorLaw09b
import Derived.Test.YtlcdkejjojginaaDoorOwn
namespace Go.Proofs.YtlcdkejjojginaaDoor
open Go.ChangeShapes Go.WideShapes Go.ChangeAt Go.RowKit
set_option linter.unusedVariables false
set_option linter.unusedSimpArgs false

/-- the first p names, kind by kind -/
def nmI (p : Nat) : Nat := 3 * (p % 3) + p / 3
def nmV (p : Nat) : List Value := (List.range p).map fun q => .string (namB (nmI q))
theorem nmV_succ (p : Nat) : nmV (p + 1) = nmV p ++ [.string (namB (nmI p))] := by unfold nmV; rw [List.range_succ, List.map_append]; rfl
theorem nmV_at {p q : Nat} (h : q < p) : (nmV p)[q]? = some (.string (namB (nmI q))) := by unfold nmV; simp [h]
theorem nmI_lt {p : Nat} (h : p < 9) : nmI p < 9 := by unfold nmI; omega
theorem nmI_ne {p q : Nat} (hp : p < 9) (h : q < p) : nmI q ≠ nmI p := by unfold nmI; omega
theorem nmI_of {k i : Nat} (hi : i < 3) : nmI (3 * k + i) = 3 * i + k := by unfold nmI; omega
theorem own_nil {w : World} {b : Nat} {e : TypeId} {v : Value} (h : w.ownsRow b e 1 v 0 []) : ∃ A c, v = .slice A 0 c := by
  rcases h.2 with ⟨rfl, _⟩ | ⟨g, cap, cur, rfl, _⟩
  · exact ⟨none, 0, rfl⟩
  · exact ⟨_, cap, rfl⟩
theorem own_any {w : World} {b n : Nat} {e : TypeId} {v : Value} {xs : List Value} (h : w.ownsRow b e 1 v n xs) : ∃ A c, v = .slice A n c ∧ ∀ j, j < n → ∃ g, A = some ⟨g, 0, none⟩ ∧ w.cell? ⟨g, j, none⟩ = xs[j]? := by
  rcases h.2 with ⟨rfl, rfl⟩ | ⟨g, cap, cur, rfl, h1, h2, h3, h4, _⟩
  · exact ⟨none, 0, rfl, fun j hj => by omega⟩
  · exact ⟨_, cap, rfl, fun j hj => ⟨g, rfl, h.cellAt j (by omega)⟩⟩
theorem sort_at {k i : Nat} (hk : k < 3) (hi : i < 3) (w : World) (h : Tabs w) : Calls Tryd.prog 12 #[.int .i64 (cauI (3 * i + k))] w fun e w' => e = .returned (.tuple #[.int .i64 ((i : Int) + 1), .int .i64 (k : Int)]) ∧ Ext w w' := by
  have hm : 3 * i + k < 9 := by omega
  have h := sort9_c (cauI (3 * i + k)) w h
  have e1 : srtI (3 * i + k) = (i : Int) + 1 := by unfold srtI; rw [if_pos hm]; omega
  have e2 : kndI (3 * i + k) = (k : Int) := by unfold kndI; rw [if_pos hm]; omega
  rw [pos_cau hm, e1, e2] at h
  exact h
theorem name_at {k i : Nat} (hk : k < 3) (hi : i < 3) (w : World) (h : Tabs w) : Calls Tryd.prog 14 #[.int .i64 (cauI (3 * i + k))] w fun e w' => e = .returned (.string (namB (nmI (3 * k + i)))) ∧ Ext w w' := by
  have h := name9_c (cauI (3 * i + k)) w h
  rw [pos_cau (by omega)] at h
  rw [nmI_of (k := k) hi]
  exact h
theorem word_ne {b : ByteArray} (h : (b.toList == []) = false) : b.toList.isEmpty = false := by
  cases hh : b.toList with
  | nil => rw [hh] at h; simp at h
  | cons _ _ => rfl
theorem nm_apart {p q : Nat} (hp : p < 9) (h : q < p) : ((namB (nmI q)).toList == (namB (nmI p)).toList) = false := nam_apart (nmI_lt (by omega)) (nmI_lt hp) (nmI_ne hp h)
theorem own_apart {w : World} {b n : Nat} {e t : TypeId} {v : Value} {xs : List Value} {g : Nat} {cs : Array Value} (h : w.ownsRow b e 1 v n xs) (hb : Blk w g t cs) (hne : e ≠ t) : v.ownBlock ≠ some g := by
  intro hv
  rcases h.2 with ⟨rfl, _⟩ | ⟨g', cap, cur, rfl, _, hh, _⟩
  · simp [Value.ownBlock] at hv
  · simp only [Value.ownBlock, Option.some.injEq] at hv
    subst hv
    unfold Blk at hb
    rw [hh] at hb
    simp only [Option.some.injEq, Obj.cells.injEq] at hb
    exact hne hb.2.1
attribute [irreducible] nmI nmV
set_option maxRecDepth 100000 in
set_option maxHeartbeats 4000000 in
theorem CauseApart_w (a : Nat) (w : World) (hT : Tabs w) :
    Calls Tryd.prog 5 #[.int .u64 (a : Int)] w fun e w' => e = .returned (.bool true) ∧ Ext w w' := by
  have HE := Lib.hid (Ext.refl w)
  have HT := Lib.hid hT
  have HT0 := Lib.hid hT
  clear hT
  go_enter Tryd.func5, Tryd.ntmps5
  go_wp2_with fail
  refine (awake9_c _ HT.out).mono ?_
  rintro e w5 ⟨rfl, hE⟩
  replace HE := Lib.hid (HE.out.trans hE)
  replace HT := Lib.hid (HT.out.ext hE)
  clear hE
  go_wp2
  go_loopw [3, 4] (fun v c wr => ∃ k : Nat, k ≤ 3 ∧ c = .int .i64 k ∧ wr.ownsRow w.heap.size 9 1 v (3 * k) (nmV (3 * k)) ∧ Tabs wr ∧ Ext w wr) (fun _ c _ => 3 - (intOf c).toNat)
  case atStart => exact ⟨0, by omega, rfl, by unfold nmV; exact World.ownsRow_nil _ _ _ _, HT.out, HE.out⟩
  case round =>
    clear HT HE
    obtain ⟨k, hk, rfl, hown, hT, hE0⟩ := hrel
    have HT := Lib.hid hT
    have HE := Lib.hid hE0
    have HO := Lib.hid hown
    clear hT hE0 hown
    by_cases hkl : k < 3
    · have ho := fun w h => odd_l k hkl a w h
      have hx := fun w h => access_l k hkl a w h
      have hp := fun w h => page_l k hkl a w h
      go_wp2_with fail
      refine (ho _ HT.out).mono ?_
      rintro e w5 ⟨rfl, hE⟩
      replace HE := Lib.hid (HE.out.trans hE)
      replace HT := Lib.hid (HT.out.ext hE)
      replace HO := Lib.hid (own_ext HO.out hE)
      clear hE
      go_wp2_with fail
      refine (hx _ HT.out).mono ?_
      rintro e w5 ⟨rfl, hE⟩
      replace HE := Lib.hid (HE.out.trans hE)
      replace HT := Lib.hid (HT.out.ext hE)
      replace HO := Lib.hid (own_ext HO.out hE)
      clear hE
      go_wp2_with fail
      refine (hp _ HT.out).mono ?_
      rintro e w6 ⟨rfl, hE⟩
      replace HE := Lib.hid (HE.out.trans hE)
      replace HT := Lib.hid (HT.out.ext hE)
      replace HO := Lib.hid (own_ext HO.out hE)
      clear hE
      have hb := Blk.new w6 25 #[.bool true, .int .i64 (cauI k), .int .u64 (a : Int), .bool true, .int .i64 (cauI (3 + k)), .int .u64 (a : Int), .bool true, .int .i64 (cauI (6 + k)), .int .u64 (a : Int)]
      have HE := Lib.hid (HE.out.alloc (.cells #[.bool true, .int .i64 (cauI k), .int .u64 (a : Int), .bool true, .int .i64 (cauI (3 + k)), .int .u64 (a : Int), .bool true, .int .i64 (cauI (6 + k)), .int .u64 (a : Int)] 25))
      have hE := (Ext.refl w6).alloc (.cells #[.bool true, .int .i64 (cauI k), .int .u64 (a : Int), .bool true, .int .i64 (cauI (3 + k)), .int .u64 (a : Int), .bool true, .int .i64 (cauI (6 + k)), .int .u64 (a : Int)] 25)
      replace HT := Lib.hid (HT.out.ext hE)
      replace HO := Lib.hid (own_ext HO.out hE)
      clear hE ho hx hp
      go_wp2
      go_loopw [3, 6] (fun v c wr => ∃ i : Nat, i ≤ 3 ∧ c = .int .i64 i ∧ wr.ownsRow w.heap.size 9 1 v (3 * k + i) (nmV (3 * k + i)) ∧
        Blk wr w6.heap.size 25 #[.bool true, .int .i64 (cauI k), .int .u64 (a : Int), .bool true, .int .i64 (cauI (3 + k)), .int .u64 (a : Int), .bool true, .int .i64 (cauI (6 + k)), .int .u64 (a : Int)] ∧ Tabs wr ∧ Ext w wr) (fun _ c _ => 3 - (intOf c).toNat)
      case atStart => exact ⟨0, by omega, rfl, HO.out, hb, HT.out, HE.out⟩
      case round =>
        clear HT HE HO hb
        obtain ⟨i, hi, rfl, hown, hb, hT, hE0⟩ := hrel
        have HT := Lib.hid hT
        have HE := Lib.hid hE0
        obtain ⟨A, c, rfl, hcell⟩ := own_any hown
        have HO := Lib.hid hown
        have HB := Lib.hid hb
        have HN := Lib.hid (own_apart hown hb (by decide))
        have HC := Lib.hid hcell
        clear hT hE0 hown hcell
        by_cases hil : i < 3
        · have q0 : wr.cell? ⟨w6.heap.size, i * 3, none⟩ = some (.bool true) := by
            rw [hb.cell]; rcases (by omega : i = 0 ∨ i = 1 ∨ i = 2) with rfl | rfl | rfl <;> rfl
          have q1 : wr.cell? ⟨w6.heap.size, i * 3 + 1, none⟩ = some (.int .i64 (cauI (3 * i + k))) := by
            rw [hb.cell]; rcases (by omega : i = 0 ∨ i = 1 ∨ i = 2) with rfl | rfl | rfl
            · rw [show 3 * 0 + k = k by omega]; rfl
            · rfl
            · rfl
          have q2 : wr.cell? ⟨w6.heap.size, i * 3 + 2, none⟩ = some (.int .u64 (a : Int)) := by
            rw [hb.cell]; rcases (by omega : i = 0 ∨ i = 1 ∨ i = 2) with rfl | rfl | rfl <;> rfl
          clear hb
          have hm : 3 * i + k < 9 := by omega
          have hs := fun w h => sort_at hkl hil w h
          have hn := fun w h => name_at hkl hil w h
          have hp9 : 3 * k + i < 9 := by omega
          have nw := nam_word (nmI_lt hp9)
          have nw3 := word_ne nw
          have hap := Lib.hid (fun (j : Nat) (hj : j < 3 * k + i) => nm_apart hp9 hj)
          have hsucc := Lib.hid (nmV_succ (3 * k + i))
          generalize cauI (3 * i + k) = c0 at q1 hs hn
          go_wp2_with fail
          refine (hs _ HT.out).mono ?_
          rintro e w5 ⟨rfl, hE⟩
          replace HE := Lib.hid (HE.out.trans hE)
          replace HT := Lib.hid (HT.out.ext hE)
          replace HO := Lib.hid (own_ext HO.out hE)
          replace HB := Lib.hid (HB.out.ext hE)
          replace q0 := ext_cell hE q0
          replace q1 := ext_cell hE q1
          replace q2 := ext_cell hE q2
          have HC2 := Lib.hid (fun (j : Nat) (hj : j < 3 * k + i) => (HC.out j hj).imp fun g h => And.intro h.1 (ext_cell hE (h.2.trans (nmV_at hj))))
          clear hE hs HC
          go_wp2_with fail
          refine (hn _ HT.out).mono ?_
          rintro e w5 ⟨rfl, hE⟩
          replace HE := Lib.hid (HE.out.trans hE)
          replace HT := Lib.hid (HT.out.ext hE)
          replace HO := Lib.hid (own_ext HO.out hE)
          replace HB := Lib.hid (HB.out.ext hE)
          replace q0 := ext_cell hE q0
          replace q1 := ext_cell hE q1
          replace q2 := ext_cell hE q2
          have HC := Lib.hid (fun (j : Nat) (hj : j < 3 * k + i) => (HC2.out j hj).imp fun g h => And.intro h.1 (ext_cell hE h.2))
          clear hE hn HC2
          generalize hNM : namB (nmI (3 * k + i)) = nm at nw nw3 hap hsucc ⊢
          clear hNM
          go_wp2
          go_loop [10] (fun j => ∃ q : Nat, q ≤ 3 * k + i ∧ j = .int .i64 q) (fun j => 3 * k + i - (intOf j).toNat)
          case atStart => exact ⟨0, by omega, rfl⟩
          case round =>
            obtain ⟨q, hq, rfl⟩ := hrel
            by_cases hql : q < 3 * k + i
            · obtain ⟨g, rfl, hcj⟩ := HC.out q hql
              have hne := hap.out q hql
              generalize hN2 : namB (nmI q) = nq at hcj hne
              clear hN2
              go_wp2
              go_round
              case rel => exact ⟨q + 1, by omega, by go_num⟩
              case measure => simp [intOf]; omega
            · obtain rfl : q = 3 * k + i := by omega
              have hsz : w.heap.size ≤ w5.heap.size := HE.out.size
              go_wp2_with (at_builtin; refine wpList_append_run' _ rfl _ _ _ rfl _ _ rfl rfl _ (run_append_str _ w.heap.size _ _ _ HO.out _ (by omega) hsz _) ?_; rintro v7 w7 ⟨hown7, hB7, hK7⟩; have HO7 := Lib.hid hown7; have HB7 := Lib.hid hB7; have HK7 := Lib.hid hK7; clear hown7 hB7 hK7)
              go_roundw
              case rel => exact ⟨i + 1, by omega, by go_num, by rw [← Nat.add_assoc, hsucc.out]; exact HO7.out, HB.out.kept HK7.out HN.out, HT0.out.ext (Below.trans HE.out HB7.out), Below.trans HE.out HB7.out⟩
              case measure => simp [intOf]; omega
        · obtain rfl : i = 3 := by omega
          go_wp2
          go_roundw
          case rel => exact ⟨k + 1, by omega, by go_num, by rw [show 3 * (k + 1) = 3 * k + 3 by omega]; exact HO.out, HT.out, HE.out⟩
          case measure => simp [intOf]; omega
    · obtain rfl : k = 3 := by omega
      obtain ⟨A, c, rfl, _⟩ := own_any HO.out
      go_wp2
      go_ret
      exact ⟨rfl, HE.out⟩
end Go.Proofs.YtlcdkejjojginaaDoor
