/- The document's answers for layer 2 (package atlasref02): a size picked, sizes, bytes put, read, low. -/
import Derived.Test.YtledkljbegpdpaaGreatDoorGtwo
import Derived.Maps.AppendAt
import Derived.OwnWalk
import Derived.Test.YtledkljbegpdpaaGreatDoorGmem
namespace Go.Proofs.YtledkljbegpdpaaGreatDoor
open Go.ChangeShapes Go.WideShapes Go.ChangeAt Go.RowKit
set_option linter.unusedVariables false
set_option maxRecDepth 10000

def pickN (n : Int) : Nat := if n % 4 = 0 then 1 else if n % 4 = 1 then 2 else if n % 4 = 2 then 4 else 8
theorem pickN_is (n : Int) : IsSize (pickN n) := by
  unfold pickN IsSize
  split
  · simp
  · split
    · simp
    · split <;> simp
theorem pickN_0 {n : Int} (h : n % 4 = 0) : pickN n = 1 := by unfold pickN; rw [if_pos h]
theorem pickN_1 {n : Int} (h : n % 4 = 1) : pickN n = 2 := by unfold pickN; rw [if_neg (by omega), if_pos h]
theorem pickN_2 {n : Int} (h : n % 4 = 2) : pickN n = 4 := by unfold pickN; rw [if_neg (by omega), if_neg (by omega), if_pos h]
theorem pickN_3 {n : Int} (h : n % 4 = 3) : pickN n = 8 := by unfold pickN; rw [if_neg (by omega), if_neg (by omega), if_neg (by omega)]
attribute [irreducible] pickN

theorem pick_c (n : Int) (n0 : 0 ≤ n) (n1 : n < 256) (w : World) :
    Calls Tryz.prog 11 #[.int .u8 n] w fun e w' => e = .returned (.int .i64 ((pickN n : Nat) : Int)) ∧ Below w.heap.size w w' := by
  rcases (show n % 4 = 0 ∨ n % 4 = 1 ∨ n % 4 = 2 ∨ n % 4 = 3 by omega) with h | h | h | h
  · have H := Lib.hid (pickN_0 h)
    go_enter Tryz.func11, Tryz.ntmps11
    go_wp2
    go_ret
    exact ⟨by rw [H.out]; rfl, (Below.refl _ _).alloc (Nat.le_refl _) _⟩
  · have H := Lib.hid (pickN_1 h)
    go_enter Tryz.func11, Tryz.ntmps11
    go_wp2
    go_ret
    exact ⟨by rw [H.out]; rfl, (Below.refl _ _).alloc (Nat.le_refl _) _⟩
  · have H := Lib.hid (pickN_2 h)
    go_enter Tryz.func11, Tryz.ntmps11
    go_wp2
    go_ret
    exact ⟨by rw [H.out]; rfl, (Below.refl _ _).alloc (Nat.le_refl _) _⟩
  · have H := Lib.hid (pickN_3 h)
    go_enter Tryz.func11, Tryz.ntmps11
    go_wp2
    go_ret
    exact ⟨by rw [H.out]; rfl, (Below.refl _ _).alloc (Nat.le_refl _) _⟩

/-- the cells of those bytes -/
def byteVs (l : List Nat) : List Value := l.map fun (b : Nat) => Value.int .u8 (b : Int)
theorem byteVs_get (l : List Nat) {i : Nat} (h : i < l.length) : (byteVs l)[i]? = some (.int .u8 ((bAt l i : Nat) : Int)) := by
  simp [byteVs, bAt, h]
/-- what a call that makes bytes leaves: a slice of its own that holds them, and nothing that was there turned -/
def MadeB (l : List Nat) (w : World) (e : Ending) (w' : World) : Prop :=
  ∃ v, e = .returned v ∧ w'.ownsRow w.heap.size 5 1 v l.length (byteVs l) ∧ Below w.heap.size w w'

/-- v without its k lowest bytes -/
def shB (v k : Nat) : Nat := v / 256 ^ k
theorem shB_le (v k : Nat) : shB v k ≤ v := Nat.div_le_self _ _
theorem shB_0 (v : Nat) : shB v 0 = v := by simp [shB]
theorem shB_s (v k : Nat) : shB v k / 256 = shB v (k + 1) := by unfold shB; rw [Nat.div_div_eq_div_mul, Nat.pow_succ]
theorem shB_m (v k : Nat) : shB v k % 256 = byteN v k := rfl
attribute [irreducible] shB

theorem byteVs_snoc (v k : Nat) : byteVs (bytesN v k) ++ [Value.int .u8 ((shB v k : Int) % 256)] = byteVs (bytesN v (k + 1)) := by
  rw [bytesN_snoc, ← shB_m]; simp [byteVs]

theorem rput_c (v s : Nat) (v1 : v < 18446744073709551616) (hs : s ≤ 8) (w : World) :
    Calls Tryz.prog 38 #[.int .u64 (v : Int), .int .i64 (s : Int)] w (MadeB (bytesN v s) w) := by
  obtain ⟨i0, hi, hz0, hz1, hz2⟩ := info_parts u8_info
  go_enter Tryz.func38, Tryz.ntmps38
  go_wp2
  go_loopw [0, 5, 6] (fun x out i wr => ∃ k : Nat, k ≤ s ∧ i = .int .i64 k ∧ x = .int .u64 ((shB v k : Nat) : Int) ∧ wr.ownsRow w.heap.size 5 1 out k (byteVs (bytesN v k)) ∧ Below w.heap.size w wr) (fun _ _ i _ => (s - intOf i).toNat)
  case atStart => exact ⟨0, by omega, rfl, by rw [shB_0], World.ownsRow_nil _ _ _ _, Below.refl _ _⟩
  case round =>
    obtain ⟨k, hk, rfl, rfl, hown, hbel⟩ := hrel
    by_cases hlt : k < s
    · have hd1 : ((shB v k : Nat) : Int) < 18446744073709551616 := by have := shB_le v k; omega
      have hd0 : 0 ≤ ((shB v k : Nat) : Int) := by omega
      have hbs := hbel.size
      go_wp2_with (at_builtin; refine wpList_append_own_at _ rfl (.tmp 12) (.tmp 16) 86 rfl w.heap.size 5 i0 (.int .u8 0) 1 1 Tryz.underlying86 hi hz0 hz1 hz2 rfl (by decide) _ _ _ rfl (hown.alloc _) ⟨wr.heap.size, 0, none⟩ 1 1 [.int .u8 ((shB v k : Int) % 256)] rfl rfl (by intro j u hj; match j, hj with | 0, hj => simp at hj; subst hj; simp [Addr.add]) (by intro u hu; simp at hu; subst hu; rfl) (by unfold maxLen; omega) (by omega) (by simp; omega) ?_; intro v' w1 hown' hgrow _ hat)
      have hl' : ∀ k, v'.ownBlock = some k → w.heap.size ≤ k := fun k h => (hown'.lt k h).1
      have hbel' := (hbel.alloc hbs (.cells #[.int .u8 ((shB v k : Int) % 256)] 5)).grown hgrow (by simp; omega) (fun k h => (hown.lt k h).1)
      rw [byteVs_snoc] at hown'
      have Ho := Lib.hid hown'
      clear hown' hgrow hown hat hl'
      go_roundw
      case rel => exact ⟨k + 1, by omega, by go_num, by rw [← shB_s]; rfl, Ho.out, hbel'⟩
      case measure => simp [intOf]; omega
    · have hk' : k = s := by omega
      subst hk'
      have Ho := Lib.hid hown
      clear hown
      go_wp2
      go_ret
      exact ⟨_, rfl, by rw [bytesN_len]; exact Ho.out, hbel⟩

theorem own_slb {w : World} {base : Nat} {v : Value} {l : List Nat} (h : w.ownsRow base 5 1 v l.length (byteVs l)) : ∃ A c, v = .slice A l.length c ∧ SlB w A l := by
  rcases h.2 with ⟨rfl, h0⟩ | ⟨g, cap, cur, rfl, hbg, hh, _, _, _, ht⟩
  · have : l = [] := List.eq_nil_of_length_eq_zero h0
    subst this
    exact ⟨none, 0, rfl, fun h => absurd h (by simp)⟩
  · refine ⟨_, cap, rfl, fun hl => ⟨g, 0, rfl, (h.lt g rfl).2, fun i hi => ?_⟩⟩
    rw [h.cellAt (0 + i) (by omega), Nat.zero_add, byteVs_get l hi]

/-- the same, said as a slice that reads as those bytes -/
def MadeS (l : List Nat) (w : World) (e : Ending) (w' : World) : Prop :=
  ∃ A c, e = .returned (.slice A l.length c) ∧ SlB w' A l ∧ Below w.heap.size w w'
theorem MadeB.s {l : List Nat} {w : World} {e : Ending} {w' : World} (h : MadeB l w e w') : MadeS l w e w' := by
  obtain ⟨v, rfl, ho, hb⟩ := h
  obtain ⟨A, c, rfl, hs⟩ := own_slb ho
  exact ⟨A, c, rfl, hs, hb⟩
theorem rputs_c (v s : Nat) (v1 : v < 18446744073709551616) (hs : s ≤ 8) (w : World) :
    Calls Tryz.prog 38 #[.int .u64 (v : Int), .int .i64 (s : Int)] w (MadeS (bytesN v s) w) :=
  (rput_c v s v1 hs w).mono fun _ _ h => h.s

/-- the number of the bytes from the place k on, of at most 8 -/
def numD (l : List Nat) (k : Nat) : Nat := numN ((l.take 8).drop k)
theorem numD_end (l : List Nat) {m : Nat} (h : min l.length 8 ≤ m) : numD l m = 0 := by
  unfold numD; rw [List.drop_eq_nil_of_le (by simp; omega)]; rfl
theorem numD_step (l : List Nat) {k : Nat} (h : k < l.length) (h8 : k < 8) : 256 * numD l (k + 1) + bAt l k = numD l k := by
  unfold numD bAt
  rw [List.drop_eq_getElem_cons (l := l.take 8) (i := k) (by simp; omega), numN]
  simp [h]; omega
theorem numD_0 (l : List Nat) : numD l 0 = numN (l.take 8) := rfl
theorem numD_lt {l : List Nat} (h : IsBytes l) (k : Nat) : numD l k < 256 ^ (8 - k) := by
  have h1 : IsBytes ((l.take 8).drop k) := fun x hx => h x (List.mem_of_mem_take (List.mem_of_mem_drop hx))
  have h2 := numN_lt _ h1
  have h3 : ((l.take 8).drop k).length ≤ 8 - k := by simp; omega
  exact Nat.lt_of_lt_of_le h2 (Nat.pow_le_pow_right (by decide) h3)
theorem numD_56 {l : List Nat} (h : IsBytes l) (k : Nat) : numD l (k + 1) < 72057594037927936 :=
  Nat.lt_of_lt_of_le (numD_lt h (k + 1)) (Nat.le_trans (Nat.pow_le_pow_right (by decide) (show 8 - (k + 1) ≤ 7 by omega)) (by decide))
attribute [irreducible] numD

set_option maxRecDepth 100000 in
theorem rget2_c (A : Option Addr) (l : List Nat) (c : Nat) (hl : IsBytes l) (hm : l.length ≤ 9223372036854775807) (w : World) (hs : SlB w A l) :
    Calls Tryz.prog 37 #[.slice A l.length c] w fun e w' => e = .returned (.int .u64 ((numN (l.take 8) : Nat) : Int)) ∧ w = w' := by
  by_cases h8 : l.length ≤ 8
  all_goals
    go_enter Tryz.func37, Tryz.ntmps37
    go_wp2
    go_loop [3, 4] (fun v i => ∃ k : Nat, k ≤ min l.length 8 ∧ i = .int .i64 ((k : Int) - 1) ∧ v = .int .u64 ((numD l k : Nat) : Int)) (fun _ i => (intOf i + 1).toNat)
    case atStart => exact ⟨min l.length 8, by omega, by go_num, by rw [numD_end l (Nat.le_refl _)]; rfl⟩
    case round =>
      obtain ⟨k, hk, rfl, rfl⟩ := hrel
      rcases k with _ | k
      · have H := Lib.hid (numD_0 l)
        clear hk h8 hs
        go_wp2
        go_ret
        exact ⟨congrArg (fun n : Nat => Ending.returned (.int .u64 (n : Int))) H.out, rfl⟩
      · obtain ⟨b, off, rfl, hb, hc⟩ := hs (by omega)
        have hck := hc k (by omega)
        have hx : bAt l k < 256 := bAt_lt hl k
        have hn := numD_56 hl k
        have hst := Lib.hid (numD_step l (k := k) (by omega) (by omega))
        have hk1 : k < l.length := by omega
        have hkk := Lib.hid hk
        have hk9 : k ≤ 7 := by omega
        rw [show ((k + 1 : Nat) : Int) - 1 = k by omega]
        clear hc hs hk h8
        try clear h
        go_wp2
        go_round
        case rel => exact ⟨k, by have := hkk.out; omega, by go_num, by rw [← hst.out]; go_num⟩
        case measure => simp [intOf]

theorem numN_low (v : Nat) {s : Nat} (h : s ≤ 8) : numN ((bytesN v s).take 8) = v % 256 ^ s := by
  rw [List.take_of_length_le (by rw [bytesN_len]; exact h), numN_bytes]

theorem rlow_c (v s : Nat) (v1 : v < 18446744073709551616) (hs : s ≤ 8) (w : World) :
    Calls Tryz.prog 19 #[.int .u64 (v : Int), .int .i64 (s : Int)] w fun e w' => e = .returned (.int .u64 ((v % 256 ^ s : Nat) : Int)) ∧ Below w.heap.size w w' := by
  have H := Lib.hid (numN_low v hs)
  go_enter Tryz.func19, Tryz.ntmps19
  go_wp2_with first | (go_at_call 38; refine (rputs_c v s v1 hs _).mono ?_; rintro e w1 ⟨A, c, rfl, hs1, hb1⟩) | (go_at_call 37; refine (rget2_c _ _ _ (bytesN_is v s) (by rw [bytesN_len]; omega) _ hs1).mono ?_; rintro e w2 ⟨rfl, rfl⟩)
  go_ret
  exact ⟨congrArg (fun n : Nat => Ending.returned (.int .u64 (n : Int))) H.out, hb1⟩
end Go.Proofs.YtledkljbegpdpaaGreatDoor
/- The document's answers for layer 3 (package atlasref03): same memories, words, bytes, right ones. -/
namespace Go.Proofs.YtledkljbegpdpaaGreatDoor
open Go.ChangeShapes Go.WideShapes Go.ChangeAt Go.RowKit
set_option linter.unusedVariables false
set_option maxRecDepth 10000
set_option linter.unusedSimpArgs false

theorem box_two {w w1 : World} {t : TypeId} {u v x y : Value} (h : Ext ((w.alloc (.cells #[u, v] t)).alloc (.cells #[x, y] t)) w1) :
    (w1.cell? ⟨w.heap.size, 0, none⟩ = some u ∧ w1.cell? ⟨w.heap.size, 1, none⟩ = some v) ∧ w1.cell? ⟨w.heap.size + 1, 0, none⟩ = some x ∧ w1.cell? ⟨w.heap.size + 1, 1, none⟩ = some y := by
  have h1 := ext_blk0 h
  have h2 := ext_blk h
  exact ⟨⟨(cell_of_row w1 _ 0 _ _ _ h1).trans rfl, (cell_of_row w1 _ 1 _ _ _ h1).trans rfl⟩, (cell_of_row w1 _ 0 _ _ _ h2).trans rfl, (cell_of_row w1 _ 1 _ _ _ h2).trans rfl⟩

theorem list_ne {L K : List (Nat × Nat)} {k : Nat} (h : ¬ (atN L k = atN K k ∧ vlN L k = vlN K k)) : L ≠ K := fun e => by subst e; exact h ⟨rfl, rfl⟩
theorem list_eq {L K : List (Nat × Nat)} (hl : L.length = K.length) (h : ∀ i, i < L.length → atN L i = atN K i ∧ vlN L i = vlN K i) : L = K := by
  apply List.ext_getElem hl
  intro i h1 h2
  obtain ⟨a, b⟩ := h i h1
  rw [cell_get h1, cell_get h2, a, b]

def sameB (S T : Nat) (L K : List (Nat × Nat)) : Bool := decide (S = T ∧ L = K)
theorem sameB_yes {S : Nat} {L K : List (Nat × Nat)} (h : L = K) : sameB S S L K = true := by simp [sameB, h]
theorem sameB_no1 {S T : Nat} {L K : List (Nat × Nat)} (h : ¬ S = T) : sameB S T L K = false := by simp [sameB, h]
theorem sameB_no2 {S T : Nat} {L K : List (Nat × Nat)} (h : ¬ L = K) : sameB S T L K = false := by simp [sameB, h]
attribute [irreducible] sameB

set_option maxRecDepth 100000 in
set_option maxHeartbeats 4000000 in
theorem same_c (S T : Nat) (A B : Option Addr) (L K : List (Nat × Nat)) (c d : Nat) (hn : L.length ≤ 4611686018427387904) (w : World) (hs : ClB w A L) (hk : ClB w B K) :
    Calls Tryz.prog 14 #[.agg #[.int .u64 (S : Int), .slice A L.length c], .agg #[.int .u64 (T : Int), .slice B K.length d]] w fun e w' => e = .returned (.bool (sameB S T L K)) ∧ Ext w w' := by
  have hE0 : Hid (Ext w ((w.alloc (.cells #[.int .u64 (S : Int), .slice A L.length c] 32)).alloc (.cells #[.int .u64 (T : Int), .slice B K.length d] 32))) := Lib.hid (((Ext.refl w).alloc _).alloc _)
  by_cases h1 : S = T
  case neg =>
    have H := Lib.hid (sameB_no1 (L := L) (K := K) h1)
    have hd : ((S : Int) != (T : Int)) = true := by simp; omega
    have hd' : (S != T) = true := by simp; omega
    go_enter Tryz.func14, Tryz.ntmps14
    go_wp2
    go_ret
    exact ⟨by rw [H.out]; rfl, hE0.out⟩
  subst h1
  by_cases h2 : L.length = K.length
  case neg =>
    have H := Lib.hid (sameB_no2 (S := S) (T := S) (fun e : L = K => h2 (by rw [e])))
    have hd : ((L.length : Int) != (K.length : Int)) = true := by simp; omega
    have hd' : (L.length != K.length) = true := by simp; omega
    go_enter Tryz.func14, Tryz.ntmps14
    go_wp2
    go_ret
    exact ⟨by rw [H.out]; rfl, hE0.out⟩
  have hd : ((L.length : Int) != (K.length : Int)) = false := by simp; omega
  have hd' : (L.length != K.length) = false := by simp; omega
  have H2 := Lib.hid h2
  clear h2
  go_enter Tryz.func14, Tryz.ntmps14
  go_wp2
  go_loopw [5] (fun i wr => ∃ k : Nat, k ≤ L.length ∧ i = .int .i64 k ∧ Hid (∀ i, i < k → atN L i = atN K i ∧ vlN L i = vlN K i) ∧ Ext ((w.alloc (.cells #[.int .u64 (S : Int), .slice A L.length c] 32)).alloc (.cells #[.int .u64 (S : Int), .slice B K.length d] 32)) wr) (fun i _ => (L.length - intOf i).toNat)
  case atStart => exact ⟨0, by omega, rfl, Lib.hid (fun i hi => by omega), Ext.refl _⟩
  case round =>
    obtain ⟨k, hk1, rfl, hok, hE⟩ := hrel
    obtain ⟨⟨hb0, hb1⟩, hb2, hb3⟩ := box_two hE
    by_cases hlt : k < L.length
    · obtain ⟨b, off, rfl, hb, hc⟩ := (hs.ext (hE0.out.trans hE)) (by omega)
      obtain ⟨hc1, hc2⟩ := hc k hlt
      obtain ⟨b', off', rfl, hb', hc'⟩ := (hk.ext (hE0.out.trans hE)) (by rw [← H2.out]; omega)
      obtain ⟨hc3, hc4⟩ := hc' k (by rw [← H2.out]; omega)
      have hz : (k : Int) < (L.length : Int) := by omega
      have hz' : (k : Int) < (K.length : Int) := by rw [← H2.out]; omega
      have HE := Lib.hid hE
      clear hE hc hs hc' hk
      by_cases hv : atN L k = atN K k ∧ vlN L k = vlN K k
      · obtain ⟨e1, e2⟩ := hv
        rw [← e1] at hc3
        rw [← e2] at hc4
        have hk2 : Hid (∀ i, i < k + 1 → atN L i = atN K i ∧ vlN L i = vlN K i) := Lib.hid fun i hi => by
          by_cases e : i = k
          · subst e; exact ⟨e1, e2⟩
          · exact hok.out i (by omega)
        clear e1 e2
        go_wp2
        go_quiet (fail)
        go_wp2
        go_roundw
        case rel => exact ⟨k + 1, by omega, by go_num, hk2, HE.out.drewN _⟩
        case measure => simp [intOf]; omega
      · have H := Lib.hid (sameB_no2 (S := S) (T := S) (list_ne hv))
        by_cases e1 : atN L k = atN K k
        · have e2 : ¬ vlN L k = vlN K k := fun e => hv ⟨e1, e⟩
          rw [← e1] at hc3
          have f2 : (((vlN L k : Nat) : Int) == ((vlN K k : Nat) : Int)) = false := by simp; omega
          have f3 : (vlN L k == vlN K k) = false := by simpa using e2
          clear e1 hv
          go_wp2
          go_quiet (fail)
          go_wp2
          go_ret
          exact ⟨by rw [H.out]; rfl, (hE0.out.trans HE.out).drewN _⟩
        · have f2 : (((atN L k : Nat) : Int) == ((atN K k : Nat) : Int)) = false := by simp; omega
          have f3 : (atN L k == atN K k) = false := by simpa using e1
          clear hv
          go_wp2
          go_quiet (fail)
          go_wp2
          go_ret
          exact ⟨by rw [H.out]; rfl, (hE0.out.trans HE.out).drewN _⟩
    · have hk' : k = L.length := by omega
      subst hk'
      have H := Lib.hid (sameB_yes (S := S) (list_eq H2.out hok.out))
      have HE := Lib.hid hE
      clear hE hlt hk1
      go_wp2
      go_ret
      exact ⟨by rw [H.out]; rfl, hE0.out.trans HE.out⟩
end Go.Proofs.YtledkljbegpdpaaGreatDoor
/- The document's answers for layer 3: words, bytes, loads. -/
namespace Go.Proofs.YtledkljbegpdpaaGreatDoor
open Go.ChangeShapes Go.WideShapes Go.ChangeAt Go.RowKit
set_option linter.unusedVariables false
set_option maxRecDepth 10000
set_option linter.unusedSimpArgs false

theorem word_found {n : Nat} {L : List (Nat × Nat)} (hL : RL n L) {k p : Nat} (hk : k < L.length) (h : atN L k = p) : wordL L p = vlN L k := by rw [← h]; exact hL.word_at hk
theorem word_lost {L : List (Nat × Nat)} {p k : Nat} (h1 : ∀ t, t < k → t < L.length → atN L t < p) (h2 : ∀ t, k ≤ t → t < L.length → p < atN L t) : wordL L p = 0 := by
  apply wordL_none
  intro c hc
  obtain ⟨i, hi, rfl⟩ := List.mem_iff_getElem.1 hc
  rw [← atN_get hi]
  by_cases h : i < k
  · have := h1 i h hi; omega
  · have := h2 i (by omega) hi; omega

set_option maxRecDepth 100000 in
set_option maxHeartbeats 4000000 in
theorem rword_c (S : Nat) (A : Option Addr) (L : List (Nat × Nat)) (c a : Nat) (a1 : a < 18446744073709551616) (hL : RL (S / 8) L) (hS : S % 8 = 0) (hn : L.length ≤ 1152921504606846976) (w : World) (hs : ClB w A L) :
    Calls Tryz.prog 21 #[.agg #[.int .u64 (S : Int), .slice A L.length c], .int .u64 (a : Int)] w fun e w' => e = .returned (.int .u64 ((wordL L (a / 8) : Nat) : Int)) ∧ Ext w w' := by
  have hE0 : Hid (Ext w (w.alloc (.cells #[.int .u64 (S : Int), .slice A L.length c] 32))) := Lib.hid ((Ext.refl w).alloc _)
  by_cases h1 : S ≤ a
  · have H := Lib.hid (wordL_out hL (p := a / 8) (by omega))
    go_enter Tryz.func21, Tryz.ntmps21
    go_wp2
    go_ret
    exact ⟨by rw [H.out]; rfl, hE0.out⟩
  go_enter Tryz.func21, Tryz.ntmps21
  go_wp2
  go_loopw [5, 6] (fun lo hi wr => ∃ l h : Nat, lo = .int .i64 l ∧ hi = .int .i64 h ∧ l ≤ h ∧ h ≤ L.length ∧ wr = w.alloc (.cells #[.int .u64 (S : Int), .slice A L.length c] 32) ∧ Hid ((∀ t, t < l → t < L.length → atN L t < a / 8) ∧ (∀ t, h ≤ t → t < L.length → a / 8 < atN L t))) (fun lo hi _ => (intOf hi - intOf lo).toNat)
  case atStart => exact ⟨0, L.length, rfl, rfl, by omega, by omega, rfl, Lib.hid ⟨fun t ht => by omega, fun t h1 h2 => by omega⟩⟩
  case round =>
    obtain ⟨l, h, rfl, rfl, hlh, hh, rfl, I⟩ := hrel
    by_cases hlt : l < h
    · obtain ⟨b, off, rfl, hb, hc⟩ := (hs.ext hE0.out) (by omega)
      have hmid : (l + h) / 2 < L.length := by omega
      obtain ⟨hc1, hc2⟩ := hc ((l + h) / 2) hmid
      have hm : (((l + h) / 2 : Nat) : Int) = ((l : Int) + (h : Int)) / 2 := by omega
      have hz : ((l : Int) + (h : Int)) / 2 < (L.length : Int) := by omega
      have htn : (((l : Int) + (h : Int)) / 2).toNat = (l + h) / 2 := by omega
      clear hc hs
      rcases Nat.lt_trichotomy (atN L ((l + h) / 2)) (a / 8) with e | e | e
      · have hd1 : (((atN L ((l + h) / 2) : Nat) : Int) == (a : Int) / 8) = false := by simp; omega
        have hd2 : decide (((atN L ((l + h) / 2) : Nat) : Int) < (a : Int) / 8) = true := by simp; omega
        have I2 : Hid ((∀ t, t < (l + h) / 2 + 1 → t < L.length → atN L t < a / 8) ∧ (∀ t, h ≤ t → t < L.length → a / 8 < atN L t)) := Lib.hid ⟨fun t ht ht2 => by
          by_cases e2 : t = (l + h) / 2
          · subst e2; exact e
          · have := hL.rise (show t < (l + h) / 2 by omega) hmid; omega, I.out.2⟩
        have HI := Lib.hid e
        clear e
        go_wp2
        go_roundw
        case rel => exact ⟨(l + h) / 2 + 1, h, by rw [show ((l : Int) + (h : Int)) / 2 + 1 = (((l + h) / 2 + 1 : Nat) : Int) by omega], rfl, by omega, hh, trivial, I2⟩
        case measure => simp [intOf]; omega
      · have H := Lib.hid (word_found hL hmid e)
        have hd1 : (((atN L ((l + h) / 2) : Nat) : Int) == (a : Int) / 8) = true := by simp; omega
        clear e
        go_wp2
        go_ret
        exact ⟨by rw [H.out]; rfl, hE0.out⟩
      · have hd1 : (((atN L ((l + h) / 2) : Nat) : Int) == (a : Int) / 8) = false := by simp; omega
        have hd2 : decide (((atN L ((l + h) / 2) : Nat) : Int) < (a : Int) / 8) = false := by simp; omega
        have I2 : Hid ((∀ t, t < l → t < L.length → atN L t < a / 8) ∧ (∀ t, (l + h) / 2 ≤ t → t < L.length → a / 8 < atN L t)) := Lib.hid ⟨I.out.1, fun t ht ht2 => by
          by_cases e2 : t = (l + h) / 2
          · subst e2; exact e
          · have := hL.rise (show (l + h) / 2 < t by omega) ht2; omega⟩
        clear e
        go_wp2
        go_roundw
        case rel => exact ⟨l, (l + h) / 2, rfl, by rw [show ((l : Int) + (h : Int)) / 2 = (((l + h) / 2 : Nat) : Int) by omega], by omega, by omega, trivial, I2⟩
        case measure => simp [intOf]; omega
    · obtain rfl : h = l := by omega
      have H := Lib.hid (word_lost I.out.1 I.out.2)
      go_wp2
      go_ret
      exact ⟨by rw [H.out]; rfl, hE0.out⟩

end Go.Proofs.YtledkljbegpdpaaGreatDoor
/- The document's answer for layer 3: Load. -/
namespace Go.Proofs.YtledkljbegpdpaaGreatDoor
open Go.ChangeShapes Go.WideShapes Go.ChangeAt Go.RowKit
set_option linter.unusedVariables false
set_option maxRecDepth 10000
set_option linter.unusedSimpArgs false

end Go.Proofs.YtledkljbegpdpaaGreatDoor
/- The document's answers for layer 3: a word set, words cleared. -/
namespace Go.Proofs.YtledkljbegpdpaaGreatDoor
open Go.ChangeShapes Go.WideShapes Go.ChangeAt Go.RowKit
set_option linter.unusedVariables false
set_option maxRecDepth 10000
set_option linter.unusedSimpArgs false

end Go.Proofs.YtledkljbegpdpaaGreatDoor
/- The document's answers for layer 3: Clear, Right. -/
namespace Go.Proofs.YtledkljbegpdpaaGreatDoor
open Go.ChangeShapes Go.WideShapes Go.ChangeAt Go.RowKit
set_option linter.unusedVariables false
set_option maxRecDepth 10000
set_option linter.unusedSimpArgs false

theorem not_ok4 {S : Nat} {L : List (Nat × Nat)} {j : Nat} (h : atN L (j + 1) ≤ atN L j) : ¬ okAt S L (j + 1) := fun g => by
  unfold okAt at g
  have := g.2.2
  simp at this; omega
theorem yes_ok0 {S : Nat} {L : List (Nat × Nat)} (h1 : ¬ vlN L 0 = 0) (h3 : ¬ S / 8 ≤ atN L 0) : okAt S L 0 := by
  unfold okAt; exact ⟨h1, by omega, .inl rfl⟩
theorem yes_ok1 {S : Nat} {L : List (Nat × Nat)} {j : Nat} (h1 : ¬ vlN L (j + 1) = 0) (h3 : ¬ S / 8 ≤ atN L (j + 1)) (h : ¬ atN L (j + 1) ≤ atN L j) : okAt S L (j + 1) := by
  unfold okAt; exact ⟨h1, by omega, .inr (by simp; omega)⟩

set_option maxRecDepth 100000 in
set_option maxHeartbeats 4000000 in
theorem rright_c (S : Nat) (A : Option Addr) (L : List (Nat × Nat)) (c : Nat) (hS : S < 18446744073709551616) (hL : IsCells L) (hn : L.length ≤ 4611686018427387904) (w : World) (hs : ClB w A L) :
    Calls Tryz.prog 17 #[.agg #[.int .u64 (S : Int), .slice A L.length c]] w fun e w' => e = .returned (.bool (decide (RightM S L))) ∧ Ext w w' := by
  have hE0 : Hid (Ext w (w.alloc (.cells #[.int .u64 (S : Int), .slice A L.length c] 32))) := Lib.hid ((Ext.refl w).alloc _)
  by_cases h1 : S % 4096 = 0
  case neg =>
    have H := Lib.hid (not_size (L := L) (S := S) (fun g => h1 g.1))
    have hd : ((S : Int) % 4096 != 0) = true := by simp; omega
    go_enter Tryz.func17, Tryz.ntmps17
    go_wp2
    go_ret
    exact ⟨by rw [H.out]; rfl, hE0.out⟩
  have hd : ((S : Int) % 4096 != 0) = false := by simp; omega
  by_cases h2 : S ≤ 1099511627776
  case neg =>
    have H := Lib.hid (not_size (L := L) (S := S) (fun g => h2 g.2))
    have hd2 : decide ((1099511627776 : Int) < (S : Int)) = true := by simp; omega
    go_enter Tryz.func17, Tryz.ntmps17
    go_wp2
    go_ret
    exact ⟨by rw [H.out]; rfl, hE0.out⟩
  have hd2 : decide ((1099511627776 : Int) < (S : Int)) = false := by simp; omega
  have hSz : Hid (SizeOk S) := Lib.hid ⟨h1, h2⟩
  clear h1
  go_enter Tryz.func17, Tryz.ntmps17
  go_wp2
  go_loopw [3] (fun i wr => ∃ k : Nat, k ≤ L.length ∧ i = .int .i64 k ∧ Hid (∀ i, i < k → okAt S L i) ∧ Ext (w.alloc (.cells #[.int .u64 (S : Int), .slice A L.length c] 32)) wr) (fun i _ => (L.length - intOf i).toNat)
  case atStart => exact ⟨0, by omega, rfl, Lib.hid (fun i hi => by omega), Ext.refl _⟩
  case round =>
    obtain ⟨k, hk, rfl, hok, hE⟩ := hrel
    obtain ⟨hb0, hb1⟩ := box_mem hE
    by_cases hlt : k < L.length
    · obtain ⟨b, off, rfl, hb, hc⟩ := (hs.ext (hE0.out.trans hE)) (by omega)
      obtain ⟨hc1, hc2⟩ := hc k hlt
      have hAt := (hL k hlt).1
      have hVl := (hL k hlt).2
      have hz : (k : Int) < (L.length : Int) := by omega
      have HE := Lib.hid hE
      clear hE hs
      by_cases hv : vlN L k = 0
      · have H := Lib.hid (not_at (S := S) hlt (not_ok1 hv))
        have hdv : (((vlN L k : Nat) : Int) == 0) = true := by simp; omega
        clear hc
        go_wp2
        go_quiet (fail)
        go_wp2
        go_ret
        exact ⟨by rw [H.out]; rfl, (hE0.out.trans HE.out).drewN _⟩
      have hdv : (((vlN L k : Nat) : Int) == 0) = false := by simp; omega
      by_cases h4 : S / 8 ≤ atN L k
      · have H := Lib.hid (not_at (S := S) hlt (not_ok3 h4))
        have hd4 : decide ((S : Int) / 8 ≤ ((atN L k : Nat) : Int)) = true := by simp; omega
        clear hv h4 hc
        go_wp2
        go_quiet (fail)
        go_wp2
        go_ret
        exact ⟨by rw [H.out]; rfl, (hE0.out.trans HE.out).drewN _⟩
      have hd4 : decide ((S : Int) / 8 ≤ ((atN L k : Nat) : Int)) = false := by simp; omega
      rcases k with _ | j
      · have hk1 : Hid (∀ i, i < 0 + 1 → okAt S L i) := Lib.hid fun i hi => by
          obtain rfl : i = 0 := by omega
          exact yes_ok0 hv h4
        clear hv h4 hc
        rw [Nat.zero_mul, Nat.add_zero] at hc1 hc2
        go_wp2
        go_quiet (fail)
        go_wp2
        go_roundw
        case rel => exact ⟨0 + 1, by omega, by go_num, hk1, HE.out.drewN _⟩
        case measure => simp [intOf]; omega
      · obtain ⟨hc3, hc4⟩ := hc j (by omega)
        have hw1 : IntKind.i64.wrap ((j : Int) + 1 - 1) = (j : Int) := by rw [IntKind.wrap_i64]; omega
        have hw2 : ((j : Int) + 1 - 1) = (j : Int) := by omega
        by_cases h5 : atN L (j + 1) ≤ atN L j
        · have H := Lib.hid (not_at (S := S) hlt (not_ok4 h5))
          have hd5 : decide (atN L (j + 1) ≤ atN L j) = true := by simpa using h5
          clear hv h4 hc
          go_wp2
          go_quiet (fail)
          go_wp2
          go_ret
          exact ⟨by rw [H.out]; rfl, (hE0.out.trans HE.out).drewN _⟩
        · have hk1 : Hid (∀ i, i < j + 1 + 1 → okAt S L i) := Lib.hid fun i hi => by
            by_cases e : i = j + 1
            · subst e; exact yes_ok1 hv h4 h5
            · exact hok.out i (by omega)
          have hd5 : decide (atN L (j + 1) ≤ atN L j) = false := by simpa using h5
          clear hv h4 hc h5
          go_wp2
          go_quiet (fail)
          go_wp2
          go_roundw
          case rel => exact ⟨j + 1 + 1, by omega, by go_num, hk1, HE.out.drewN _⟩
          case measure => simp [intOf]; omega
    · have hk' : k = L.length := by omega
      subst hk'
      have H := Lib.hid (is_right hSz.out hok.out)
      have HE := Lib.hid hE
      clear hE hlt hk
      go_wp2
      go_ret
      exact ⟨by rw [H.out]; rfl, hE0.out.trans HE.out⟩
end Go.Proofs.YtledkljbegpdpaaGreatDoor
