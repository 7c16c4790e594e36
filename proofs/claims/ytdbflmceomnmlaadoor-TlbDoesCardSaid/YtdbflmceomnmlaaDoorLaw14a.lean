/- Layer 14: what the laws take of the package's calls (TlbC); TlbAsid over it. -/
import Derived.Test.YtdbflmceomnmlaaDoorRtlba
import Derived.Test.YtdbflmceomnmlaaDoorRtlbx
import Derived.Test.YtdbflmceomnmlaaDoorOpen14
import Derived.Deep.Cut
import Derived.Deep.CutRange
namespace Go.Proofs.YtdbflmceomnmlaaDoor
open Go.ChangeShapes Go.WideShapes Go.ChangeAt Go.RowKit
set_option linter.unusedVariables false
set_option linter.unusedSimpArgs false

/-- a buffer that a call answers -/
def TlbR (L : List St) (w : World) (r : Ending) (w' : World) : Prop := ∃ A c, r = .returned (.agg #[.slice A L.length c]) ∧ RowV KS w' A L c ∧ Ext w w'
/-- what package tlb answers -/
structure TlbC : Prop where
  new : ∀ (n : Nat) w, n ≤ 16 → Lays w → Calls Tryd.prog 10 #[.int .i64 (n : Int)] w fun r w' => ∃ A c, r = .returned (.tuple #[.agg #[.slice A n c], .int .i64 0]) ∧ RowV KS w' A (List.replicate n s0) c ∧ Ext w w'
  awake : ∀ w, Lays w → Calls Tryd.prog 9 #[] w fun r w' => r = .returned (.bool true) ∧ Ext w w'
  right : ∀ (A : Option Addr) (L : List St) (c : Nat) w, (∀ i, i < L.length → (sT L i).ok) → RowV KS w A L c → Lays w →
    Calls Tryd.prog 12 #[.agg #[.slice A L.length c]] w fun r w' => r = .returned (.bool (rightT L)) ∧ Ext w w'
  find : ∀ (A : Option Addr) (L : List St) (c n a : Nat) w, rightT L = true → n < 18446744073709551616 → a < 18446744073709551616 → vaB a = true → RowV KS w A L c → Lays w →
    Calls Tryd.prog 16 #[.agg #[.slice A L.length c], .int .u64 (n : Int), .int .u64 (a : Int)] w fun r w' => r = .returned (.tuple #[.agg (enC (enT n a L)), .int .i64 ((seT n a L : Nat) : Int), .int .i64 ((wyT n a L : Nat) : Int), .bool (okT n a L)]) ∧ Ext w w'
  put : ∀ (A : Option Addr) (L : List St) (c : Nat) (e : En) (v : Int) w, rightT L = true → mayE e = true → e.v = true → RowV KS w A L c → Lays w →
    Calls Tryd.prog 24 #[.agg #[.slice A L.length c], .agg (enC e), .int .i64 v] w (TlbR (putT e v L) w)
  all : ∀ (A : Option Addr) (L : List St) (c : Nat) w, rightT L = true → RowV KS w A L c → Lays w →
    Calls Tryd.prog 22 #[.agg #[.slice A L.length c]] w (MadeE (allT L) w)
  newNo : ∀ (n : Int) w, ¬ (0 ≤ n ∧ n ≤ 16) → Lays w → Calls Tryd.prog 10 #[.int .i64 n] w fun r w' => r = .returned (.tuple #[.agg #[.slice none 0 0], .int .i64 1]) ∧ Ext w w'
  use : ∀ (A : Option Addr) (L : List St) (c i v : Nat) w, rightT L = true → i < L.length → v < 4 → RowV KS w A L c → Lays w →
    Calls Tryd.prog 20 #[.agg #[.slice A L.length c], .int .i64 (i : Int), .int .i64 (v : Int)] w (TlbR (useT L i v) w)
  drop : ∀ (A : Option Addr) (L : List St) (c i v : Nat) w, rightT L = true → i < L.length → v < 4 → RowV KS w A L c → Lays w →
    Calls Tryd.prog 18 #[.agg #[.slice A L.length c], .int .i64 (i : Int), .int .i64 (v : Int)] w fun r w' => ∃ A' c', r = .returned (.tuple #[.agg #[.slice A' L.length c'], .int .i64 0]) ∧ RowV KS w' A' (dropT L i v) c' ∧ Ext w w'
  dropNo : ∀ (A : Option Addr) (n c : Nat) (i v : Int) w, ¬ (0 ≤ i ∧ i < n ∧ 0 ≤ v ∧ v ≤ 3) → Lays w →
    Calls Tryd.prog 18 #[.agg #[.slice A n c], .int .i64 i, .int .i64 v] w fun r w' => r = .returned (.tuple #[.agg #[.slice A n c], .int .i64 1]) ∧ Ext w w'
  allO : ∀ (A : Option Addr) (L : List St) (c : Nat) w, rightT L = true → RowV KS w A L c → Lays w →
    Calls Tryd.prog 22 #[.agg #[.slice A L.length c]] w fun r w' => ∃ v, r = .returned v ∧ w'.ownsRow w.heap.size KE.e KE.sz v (allT L).length (KE.flat (allT L)) ∧ Ext w w'
theorem all_may {L : List St} (h : rightT L = true) {e : En} (he : e ∈ allT L) : mayE e = true := by
  unfold allT at he
  rw [List.mem_flatMap] at he
  obtain ⟨s, hs, he⟩ := he
  obtain ⟨i, hi, hsi⟩ := List.getElem_of_mem hs
  obtain ⟨_, w, hw, rfl⟩ := mem_ls he
  have hst : sT L i = s := by rw [sT_eq]; simp [List.getD, hi, hsi]
  rw [← hst]
  exact rt_may h hi hw
theorem getD_mem {α : Type} {L : List α} {d : α} {i : Nat} (h : i < L.length) : L.getD i d ∈ L := by simp [List.getD, h]
theorem mem_getD {α : Type} {L : List α} {d x : α} (h : x ∈ L) : ∃ i, i < L.length ∧ L.getD i d = x := by
  obtain ⟨i, hi, he⟩ := List.getElem_of_mem h
  exact ⟨i, hi, by simp [List.getD, hi, he]⟩
/-- no covers so far -/
def Nc (B : Bool) (P : Prop) : Prop := B = false → P
theorem nc_of {B : Bool} {P : Prop} (h : B = false → P) : Nc B P := h
theorem nc_out {P : Prop} (h : Nc false P) : P := h rfl
attribute [irreducible] Nc
set_option maxRecDepth 100000 in
set_option maxHeartbeats 4000000 in
theorem TlbAsid_w (C : TlbC) (A : Option Addr) (L : List St) (c n m a : Nat) (n1 : n < 18446744073709551616) (m1 : m < 18446744073709551616) (a1 : a < 18446744073709551616) (w : World) (hr : RowV KS w A L c) (hT : Lays w) :
    Calls Tryd.prog 8 #[.agg #[.slice A L.length c], .int .u64 (n : Int), .int .u64 (m : Int), .int .u64 (a : Int)] w fun r w' => r = .returned (.bool true) ∧ Ext w w' := by
  have h1 := Blk.new w 24 #[.slice A L.length c]
  have HE := Lib.hid ((Ext.refl w).alloc (.cells #[.slice A L.length c] 24))
  have hrow : ∀ W : World, Ext w W → RowV KS W A L c := fun W h => hr.ext h
  have hLm : L.length ≤ 9223372036854775807 := Nat.le_trans hr.2.2.1 hr.2.2.2
  have crr := fun w h => rright14_c A L c hLm w h
  cases hrt : rightT L
  · rw [hrt] at crr
    go_enter Tryd.func8, Tryd.ntmps8
    go_wp2_with (fail); refine (C.awake _ (hT.ext HE.out)).mono ?_; rintro e w' ⟨rfl, hE⟩; (try replace hb := hb.ext hE); (try replace h1 := h1.ext hE); (try replace h2 := h2.ext hE); (try replace h3 := h3.ext hE); (try replace hM := hM.ext hE); (try replace HE := Lib.hid (HE.out.trans hE))
    clear hE
    go_wp2_with ((refine wpList_load_blk (by rfl) 24 _ rfl rfl (by first | exact h1 | exact h2 | exact h3 | exact hb) Tryd.underlying24 rfl (by kernel_rfl) ?_)); refine (crr _ (hrow _ HE.out)).mono ?_; rintro e w' ⟨rfl, hE⟩; (try replace hb := hb.ext hE); (try replace h1 := h1.ext hE); (try replace h2 := h2.ext hE); (try replace h3 := h3.ext hE); (try replace hM := hM.ext hE); (try replace HE := Lib.hid (HE.out.trans hE))
    clear hE
    go_wp2_with (fail); refine (C.awake _ (hT.ext HE.out)).mono ?_; rintro e w' ⟨rfl, hE⟩; (try replace hb := hb.ext hE); (try replace h1 := h1.ext hE); (try replace h2 := h2.ext hE); (try replace h3 := h3.ext hE); (try replace hM := hM.ext hE); (try replace HE := Lib.hid (HE.out.trans hE))
    clear hE
    go_wp2
    go_ret
    exact ⟨rfl, HE.out⟩
  rw [hrt] at crr
  have cis := fun w => ris5_c (a : Int) (by omega) (by omega) w
  cases hva : vaB (a : Int)
  · rw [hva] at cis
    go_enter Tryd.func8, Tryd.ntmps8
    go_wp2_with (fail); refine (C.awake _ (hT.ext HE.out)).mono ?_; rintro e w' ⟨rfl, hE⟩; (try replace hb := hb.ext hE); (try replace h1 := h1.ext hE); (try replace h2 := h2.ext hE); (try replace h3 := h3.ext hE); (try replace hM := hM.ext hE); (try replace HE := Lib.hid (HE.out.trans hE))
    clear hE
    go_wp2_with ((refine wpList_load_blk (by rfl) 24 _ rfl rfl (by first | exact h1 | exact h2 | exact h3 | exact hb) Tryd.underlying24 rfl (by kernel_rfl) ?_)); refine (crr _ (hrow _ HE.out)).mono ?_; rintro e w' ⟨rfl, hE⟩; (try replace hb := hb.ext hE); (try replace h1 := h1.ext hE); (try replace h2 := h2.ext hE); (try replace h3 := h3.ext hE); (try replace hM := hM.ext hE); (try replace HE := Lib.hid (HE.out.trans hE))
    clear hE
    go_wp2_with (fail); refine (calls_ext (cis _)).mono ?_; rintro e w' ⟨rfl, hE⟩; (try replace hb := hb.ext hE); (try replace h1 := h1.ext hE); (try replace h2 := h2.ext hE); (try replace h3 := h3.ext hE); (try replace hM := hM.ext hE); (try replace HE := Lib.hid (HE.out.trans hE))
    clear hE
    go_wp2_with (fail); refine (C.awake _ (hT.ext HE.out)).mono ?_; rintro e w' ⟨rfl, hE⟩; (try replace hb := hb.ext hE); (try replace h1 := h1.ext hE); (try replace h2 := h2.ext hE); (try replace h3 := h3.ext hE); (try replace hM := hM.ext hE); (try replace HE := Lib.hid (HE.out.trans hE))
    clear hE
    go_wp2
    go_ret
    exact ⟨rfl, HE.out⟩
  rw [hva] at cis
  have cf1 := fun w h k => C.find A L c n a w hrt n1 a1 hva h k
  have cf2 := fun w h k => C.find A L c m a w hrt m1 a1 hva h k
  have cal := fun w h k => C.all A L c w hrt h k
  have ccv := fun j (hj : j < (allT L).length) w => rcovers_c ((allT L).getD j e0) (all_may hrt (getD_mem hj)) (a : Int) hva (by omega) (by omega) w
  have p1 := @found_of n a L
  have p2 := @found_of m a L
  have p3 := fun (h : okT n a L = true) hg => found_all h hg (m : Int)
  have q1 := fun (h : okT n a L = true) => found_mem h
  have q2 := fun (h : okT m a L = true) => found_mem h
  have hno : (∀ j, j < (allT L).length → covE ((allT L).getD j e0) a = false) → okT n a L = false ∧ okT m a L = false := fun h => by
    constructor
    · cases ho : okT n a L
      · rfl
      · obtain ⟨i, hi, he⟩ := mem_getD (d := e0) (q1 ho).1
        have := h i hi
        rw [he, (q1 ho).2] at this; cases this
    · cases ho : okT m a L
      · rfl
      · obtain ⟨i, hi, he⟩ := mem_getD (d := e0) (q2 ho).1
        have := h i hi
        rw [he, (q2 ho).2] at this; cases this
  clear q1 q2 hva hrt
  generalize enT n a L = ea at *
  generalize enT m a L = eb at *
  generalize okT n a L = oa at *
  generalize okT m a L = ob at *
  generalize seT n a L = sa at *
  generalize seT m a L = sb at *
  generalize wyT n a L = ya at *
  generalize wyT m a L = yb at *
  go_enter Tryd.func8, Tryd.ntmps8
  go_wp2_with (fail); refine (C.awake _ (hT.ext HE.out)).mono ?_; rintro e w' ⟨rfl, hE⟩; (try replace hb := hb.ext hE); (try replace h1 := h1.ext hE); (try replace h2 := h2.ext hE); (try replace h3 := h3.ext hE); (try replace hM := hM.ext hE); (try replace HE := Lib.hid (HE.out.trans hE))
  clear hE
  go_wp2_with ((refine wpList_load_blk (by rfl) 24 _ rfl rfl (by first | exact h1 | exact h2 | exact h3 | exact hb) Tryd.underlying24 rfl (by kernel_rfl) ?_)); refine (crr _ (hrow _ HE.out)).mono ?_; rintro e w' ⟨rfl, hE⟩; (try replace hb := hb.ext hE); (try replace h1 := h1.ext hE); (try replace h2 := h2.ext hE); (try replace h3 := h3.ext hE); (try replace hM := hM.ext hE); (try replace HE := Lib.hid (HE.out.trans hE))
  clear hE
  go_wp2_with (fail); refine (calls_ext (cis _)).mono ?_; rintro e w' ⟨rfl, hE⟩; (try replace hb := hb.ext hE); (try replace h1 := h1.ext hE); (try replace h2 := h2.ext hE); (try replace h3 := h3.ext hE); (try replace hM := hM.ext hE); (try replace HE := Lib.hid (HE.out.trans hE))
  clear hE
  go_wp2_with ((refine wpList_load_blk (by rfl) 24 _ rfl rfl (by first | exact h1 | exact h2 | exact h3 | exact hb) Tryd.underlying24 rfl (by kernel_rfl) ?_)); refine (cf1 _ (hrow _ HE.out) (hT.ext HE.out)).mono ?_; rintro e w' ⟨rfl, hE⟩; (try replace hb := hb.ext hE); (try replace h1 := h1.ext hE); (try replace h2 := h2.ext hE); (try replace h3 := h3.ext hE); (try replace hM := hM.ext hE); (try replace HE := Lib.hid (HE.out.trans hE))
  clear hE cf1
  have h2 := Blk.new w' 29 (enC ea)
  have hE := (Ext.refl w').alloc (.cells (enC ea) 29)
  replace h1 := h1.ext hE
  replace HE := Lib.hid (HE.out.trans hE)
  clear hE
  go_wp2_with (first | (refine wpList_store_new rfl 29 _ _ rfl (enC _) _ _ rfl rfl (en_info _) (by simp [enC_size]) (enC_one _) ?_) | (refine wpList_load_blk (by rfl) 24 _ rfl rfl (by first | exact h1 | exact h2 | exact h3 | exact hb) Tryd.underlying24 rfl (by kernel_rfl) ?_))
  generalize w'.heap.size = g2 at *
  generalize w'.alloc (.cells (enC ea) 29) = W1 at *
  refine (cf2 _ (hrow _ HE.out) (hT.ext HE.out)).mono ?_
  rintro e9 w' ⟨rfl, hE⟩
  (try replace hb := hb.ext hE); (try replace h1 := h1.ext hE); (try replace h2 := h2.ext hE); (try replace h3 := h3.ext hE); (try replace hM := hM.ext hE); (try replace HE := Lib.hid (HE.out.trans hE))
  clear hE cf2
  have h3 := Blk.new w' 29 (enC eb)
  have hE := (Ext.refl w').alloc (.cells (enC eb) 29)
  replace h1 := h1.ext hE
  replace h2 := h2.ext hE
  replace HE := Lib.hid (HE.out.trans hE)
  clear hE
  go_upto_region 5 with (refine wpList_store_new rfl 29 _ _ rfl (enC _) _ _ rfl rfl (en_info _) (by simp [enC_size]) (enC_one _) ?_)
  generalize w'.heap.size = g3 at *
  generalize w'.alloc (.cells (enC eb) 29) = W2 at *
  clear crr cis
  go_cut [87] from 51 to 87 (fun c wx => c = .bool false ∧ wx = W2)
  case first =>
    have xg := h2.en_g
    have xn := h2.en_n
    have yg := h3.en_g
    have yn := h3.en_n
    clear hno ccv cal h1 h2 h3 hrow
    cases oa
    · clear p1 p3 xg xn
      cases ob
      · skip
        go_wp2_with fail
        go_meet
        case rel => exact ⟨rfl, rfl⟩
      · cases hg : eb.g
        · rw [hg] at yg
          have e2 : ((eb.n : Int) != (m : Int)) = false := by rw [p2 rfl hg]; simp
          clear p2 hg
          go_wp2_with fail
          go_meet
          case rel => exact ⟨rfl, rfl⟩
        · rw [hg] at yg
          clear p2 hg
          go_wp2_with fail
          go_meet
          case rel => exact ⟨rfl, rfl⟩
    · cases hga : ea.g
      · rw [hga] at xg
        have e1 : ((ea.n : Int) != (n : Int)) = false := by rw [p1 rfl hga]; simp
        clear p1 p3 hga
        cases ob
        · skip
          go_wp2_with fail
          go_meet
          case rel => exact ⟨rfl, rfl⟩
        · cases hg : eb.g
          · rw [hg] at yg
            have e2 : ((eb.n : Int) != (m : Int)) = false := by rw [p2 rfl hg]; simp
            clear p2 hg
            go_wp2_with fail
            go_meet
            case rel => exact ⟨rfl, rfl⟩
          · rw [hg] at yg
            clear p2 hg
            go_wp2_with fail
            go_meet
            case rel => exact ⟨rfl, rfl⟩
      · rw [hga] at xg
        obtain rfl : ob = true := p3 rfl hga
        clear p1 p3 hga
        cases hg : eb.g
        · rw [hg] at yg
          have e2 : ((eb.n : Int) != (m : Int)) = false := by rw [p2 rfl hg]; simp
          clear p2 hg
          go_wp2_with fail
          go_meet
          case rel => exact ⟨rfl, rfl⟩
        · rw [hg] at yg
          clear p2 hg
          go_wp2_with fail
          go_meet
          case rel => exact ⟨rfl, rfl⟩
  case rest =>
    obtain ⟨rfl, rfl⟩ := hcut
    clear p1 p2 p3 h2 h3
    go_wp2_with ((refine wpList_load_blk (by rfl) 24 _ rfl rfl (by first | exact h1 | exact h2 | exact h3 | exact hb) Tryd.underlying24 rfl (by kernel_rfl) ?_)); refine (cal _ (hrow _ HE.out) (hT.ext HE.out)).mono ?_; rintro e w' ⟨A3, c3, rfl, hr3, -, hE⟩; (try replace hb := hb.ext hE); (try replace h1 := h1.ext hE); (try replace h2 := h2.ext hE); (try replace h3 := h3.ext hE); (try replace hM := hM.ext hE); (try replace HE := Lib.hid (HE.out.trans hE))
    clear hE cal hrow h1
    have hlc := hr3.2.2.1
    have hcm := hr3.2.2.2
    have hrx : ∀ W : World, Ext w' W → RowV KE W A3 (allT L) c3 := fun W h => hr3.ext h
    have HE0 := Lib.hid (Ext.refl w')
    generalize hM : allT L = M at *
    clear hM hr3
    go_wp2
    go_loopw [17, 19] (fun v i wr => ∃ (B : Bool) (k : Nat), k ≤ M.length ∧ v = .bool B ∧ i = .int .i64 k ∧ Hid (Nc B (∀ j, j < k → covE (M.getD j e0) a = false)) ∧ Ext w' wr) (fun _ i _ => (M.length - intOf i).toNat)
    case atStart => exact ⟨false, 0, by omega, rfl, rfl, Lib.hid (nc_of fun _ j hj => absurd hj (by omega)), Ext.refl _⟩
    case round =>
      obtain ⟨B, k, hk, rfl, rfl, I, hE⟩ := hrel
      have HE1 := Lib.hid hE
      clear hE
      by_cases hlt : k < M.length
      · have hkz : (k : Int) < (M.length : Int) := by omega
        clear hk
        cases B
        · obtain ⟨b, off, rfl, hb, hr4⟩ := (hrx _ HE1.out).some (by omega)
          have e2 : wr.rangeAt b (off + k * 11) (enC (M.getD k e0)).toList := hr4 k hlt
          have cc := ccv k hlt
          have IC : covE (M.getD k e0) a = false → ∀ j, j < k + 1 → covE (M.getD j e0) a = false := fun h j hj => by
            rcases Nat.lt_or_ge j k with h1 | h1
            · exact nc_out I.out j h1
            · obtain rfl : j = k := by omega
              exact h
          have J2 : Hid (Nc (covE (M.getD k e0) a) (∀ j, j < k + 1 → covE (M.getD j e0) a = false)) := Lib.hid (nc_of IC)
          clear IC I hrx hno ccv hr4
          generalize M.getD k e0 = e at e2 cc J2
          generalize covE e a = Q at cc J2
          go_wp2_with ((refine wpList_load_rng (w := wr) (by rfl) 29 _ rfl rfl e2 Tryd.underlying29 rfl (en_info _) ?_)); refine (cc _).mono ?_; rintro e w' ⟨rfl, hE⟩; (try replace hb := hb.ext hE); (try replace h1 := h1.ext hE); (try replace h2 := h2.ext hE); (try replace h3 := h3.ext hE); (try replace hM := hM.ext hE); (try replace HE := Lib.hid (HE.out.trans hE))
          replace HE1 := Lib.hid (HE1.out.trans hE)
          clear hE cc e2
          go_wp2
          go_roundw
          case rel => exact ⟨_, k + 1, by omega, rfl, by go_num, J2, HE1.out⟩
          case measure => simp [intOf]; omega
        · have J2 : Hid (Nc true (∀ j, j < k + 1 → covE (M.getD j e0) a = false)) := Lib.hid (nc_of fun h => by cases h)
          clear I hrx hno ccv
          go_wp2
          go_roundw
          case rel => exact ⟨true, k + 1, by omega, rfl, by go_num, J2, HE1.out⟩
          case measure => simp [intOf]; omega
      · obtain rfl : k = M.length := by omega
        cases B
        · obtain ⟨rfl, rfl⟩ := hno (nc_out I.out)
          clear hrx ccv I hk hlt
          go_wp2
          go_ret
          exact ⟨rfl, HE.out.trans HE1.out⟩
        · clear hno hrx ccv I hk hlt
          go_wp2
          go_ret
          exact ⟨rfl, HE.out.trans HE1.out⟩
end Go.Proofs.YtdbflmceomnmlaaDoor
