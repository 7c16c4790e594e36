/- BytesCut: of bytes cut off the number is the lowest part; bytes behind the eighth and noughts at the end say nothing. -/
import Derived.Test.YtbnijcgcicecjaaLaw02d
namespace Go.Proofs.Ytbnijcgcicecjaa
open Go.ChangeShapes Go.WideShapes Go.ChangeAt Go.RowKit
set_option linter.unusedVariables false

/-- the number of the first 8 bytes -/
def gN (l : List Nat) : Nat := numN (l.take 8)
theorem gN_lt {l : List Nat} (hl : IsBytes l) : gN l < 18446744073709551616 := numN_8 hl
theorem gN_cut (l : List Nat) : gN (l.take 8) = gN l := by unfold gN; rw [List.take_take]; rfl
theorem get_l (A : Option Addr) (l : List Nat) (n c : Nat) (hn : l.length = n) (hl : IsBytes l) (hm : n ≤ 9223372036854775807) (w : World) (hs : SlB w A l) :
    Calls Try.prog 13 #[.slice A n c] w fun e w' => e = .returned (.int .u64 ((gN l : Nat) : Int)) ∧ w = w' := by
  subst hn; exact bget_c A l c hl hm w hs
theorem SlB.take {w : World} {A : Option Addr} {l : List Nat} (h : SlB w A l) (n : Nat) : SlB w A (l.take n) := by
  intro hp
  have hp' : 0 < min n l.length := by simpa using hp
  obtain ⟨b, off, e, hb, hc⟩ := h (by omega)
  refine ⟨b, off, e, hb, fun i hi => ?_⟩
  have hi' : i < min n l.length := by simpa using hi
  rw [hc i (by omega)]
  have : bAt (l.take n) i = bAt l i := by unfold bAt; simp [List.getD_eq_getElem?_getD, show i < n by omega]
  rw [this]
theorem cut_low {l : List Nat} (hl : IsBytes l) {s : Nat} (h8 : s ≤ 8) (hs : s ≤ l.length) : gN (l.take s) = lowN (gN l) s := by
  unfold lowN gN
  rw [List.take_take, show min 8 s = s by omega, ← numN_take (hl.take 8) s (by simp; omega), List.take_take, show min s 8 = s by omega]
theorem more_same (l : List Nat) : gN (l ++ [0]) = gN l := by
  unfold gN
  by_cases h : l.length < 8
  · rw [List.take_of_length_le (by simp; omega), List.take_of_length_le (by omega), numN_append]; simp [numN]
  · rw [List.take_append_of_le_length (by omega)]
theorem more_is {l : List Nat} (h : IsBytes l) : IsBytes (l ++ [0]) := by
  intro x hx
  rcases List.mem_append.1 hx with hx | hx
  · exact h x hx
  · simp at hx; omega
theorem byteVs_app (a b : List Nat) : byteVs (a ++ b) = byteVs a ++ byteVs b := by simp [byteVs]

attribute [irreducible] gN
/-- a byte appended to a slice of the call's own -/
theorem own_more (w : World) (B : Nat) (Ao : Option Addr) (l : List Nat) (co : Nat) (ho : w.ownsRow B 5 1 (.slice Ao l.length co) l.length (byteVs l)) (hB : B ≤ w.heap.size) (hn : l.length ≤ 900) :
    ∃ Am cm w', (Builtin.append_ #[23, 23] 23 #[.slice Ao l.length co, .slice (some ⟨w.heap.size, 0, none⟩) 1 1]).run Try.prog (w.alloc (.cells #[.int .u8 0] 5)) = .ok (.slice Am (l.length + 1) cm) w' ∧
      SlB w' Am (l ++ [0]) ∧ Below B w w' := by
  have hal := (Below.refl B w).alloc hB (.cells #[.int .u8 0] 5)
  have ho1 := ho.alloc (.cells #[.int .u8 0] 5)
  have hs1 : SlB (w.alloc (.cells #[.int .u8 0] 5)) (some ⟨w.heap.size, 0, none⟩) [0] := by
    intro _
    refine ⟨w.heap.size, 0, rfl, by simp, fun i hi => ?_⟩
    have : i = 0 := by simpa using hi
    subst this
    have hb0 : bAt [0] 0 = 0 := by unfold bAt; rfl
    rw [hb0]
    exact cell_of_row (w.alloc (.cells #[.int .u8 0] 5)) w.heap.size 0 #[.int .u8 0] _ _ (heap_alloc_new w _)
  obtain ⟨v', w', h1, h2, h3⟩ := run_append_slb _ B _ l.length _ ho1 (some ⟨w.heap.size, 0, none⟩) [0] 1 hs1 (by simp) (by simp; omega) (by simp; omega) 23
  rw [← byteVs_app] at h2
  have h2' : w'.ownsRow B 5 1 v' (l ++ [0]).length (byteVs (l ++ [0])) := by simpa using h2
  obtain ⟨Am, cm, rfl, hsm⟩ := own_slb h2'
  refine ⟨Am, cm, w', by simpa using h1, hsm, hal.grown h3 (by simp; omega) (fun k hk => (ho1.lt k hk).1)⟩

set_option maxHeartbeats 4000000 in
set_option maxRecDepth 100000 in
theorem BytesCut_w (A : Option Addr) (l : List Nat) (c : Nat) (size : Int) (z0 : 0 ≤ size) (z1 : size < 256)
    (hl : IsBytes l) (hm : l.length ≤ 9223372036854775807) (w : World) (hs : SlB w A l) (hc : A = none → l = [] ∧ c = 0) (hlc : l.length ≤ c) (hcm : c ≤ 9223372036854775807) :
    Calls Try.prog 6 #[.slice A l.length c, .int .u8 size] w fun e w' => e = .returned (.bool true) ∧ Below w.heap.size w w' := by
  obtain ⟨s, hsz, hp⟩ := pick_s size z0 z1
  have hle := hsz.le
  by_cases h100 : l.length ≤ 100
  · have hd : decide ((100 : Int) < (l.length : Int)) = false := by simp; omega
    have hv := gN_lt hl
    have e2 := more_same l
    by_cases hls : s ≤ l.length
    · obtain ⟨b, off, rfl, hb, hcell⟩ := hs (by omega)
      have e1 := cut_low hl hle.2 hls
      have e3 := gN_cut l
      clear hcell
      by_cases h8 : l.length ≤ 8
      · have hd8 : decide ((l.length : Int) ≤ 8) = true := by simp; omega
        clear h8
        go_enter Try.func6, Try.ntmps6
        go_wp2_with (first | (go_at_call 7; refine (awake2_c _).mono ?_; rintro e w0 ⟨rfl, hb0⟩) | (go_at_call 8; refine (hp _).mono ?_; rintro e wp ⟨rfl, hbp⟩; have hs0 := (hs.below (B := 0) hb0).below (B := 0) hbp; obtain ⟨Ao, co, w2, hr2, hso, ho2, hb2⟩ := own_copy wp _ l c hs0 hc (by omega); have hs2 := hs0.below (B := 0) hb2; obtain ⟨Am, cm, w3, hr3, hsm, hb3⟩ := own_more w2 wp.heap.size Ao l co ho2 hb2.size (by omega); have hs3 := hs0.below (B := 0) (hb2.trans hb3); have Hr := Lib.hid hr2; have Hr3 := Lib.hid hr3; clear hr2 hr3 ho2) | (at_builtin; refine wpList_append_run _ rfl (.tmp 20) (.tmp 21) 23 rfl _ _ rfl rfl (.slice Ao l.length co) w2 Hr.out ?_) | (at_builtin; refine wpList_append_run _ rfl (.tmp 22) (.tmp 23) 23 rfl _ _ rfl rfl (.slice Am (l.length + 1) cm) w3 Hr3.out ?_) | (go_at_call 13; (with_reducible refine (get_l _ l l.length _ rfl hl hm _ hs0).mono ?_); rintro e w' ⟨rfl, rfl⟩) | (go_at_call 13; (with_reducible refine (get_l _ (l.take s) s _ (by simp; omega) (hl.take s) (by omega) _ (hs3.take s)).mono ?_); rintro e w' ⟨rfl, rfl⟩) | (go_at_call 13; (with_reducible refine (get_l _ (l ++ [0]) (l.length + 1) _ (by simp) (more_is hl) (by omega) _ hsm).mono ?_); rintro e w' ⟨rfl, rfl⟩) | (go_at_call 11; refine (low_w (gN l) s hv hsz _).mono ?_; rintro e w' ⟨rfl, rfl⟩))
        go_ret
        exact ⟨rfl, Ext.trans hb0 (Ext.trans hbp (hb2.trans hb3))⟩
      · have hd8 : decide ((l.length : Int) ≤ 8) = false := by simp; omega
        have h9 : 8 ≤ l.length := by omega
        clear h8
        go_enter Try.func6, Try.ntmps6
        go_wp2_with (first | (go_at_call 7; refine (awake2_c _).mono ?_; rintro e w0 ⟨rfl, hb0⟩) | (go_at_call 8; refine (hp _).mono ?_; rintro e wp ⟨rfl, hbp⟩; have hs0 := (hs.below (B := 0) hb0).below (B := 0) hbp; obtain ⟨Ao, co, w2, hr2, hso, ho2, hb2⟩ := own_copy wp _ l c hs0 hc (by omega); have hs2 := hs0.below (B := 0) hb2; obtain ⟨Am, cm, w3, hr3, hsm, hb3⟩ := own_more w2 wp.heap.size Ao l co ho2 hb2.size (by omega); have hs3 := hs0.below (B := 0) (hb2.trans hb3); have Hr := Lib.hid hr2; have Hr3 := Lib.hid hr3; clear hr2 hr3 ho2) | (at_builtin; refine wpList_append_run _ rfl (.tmp 20) (.tmp 21) 23 rfl _ _ rfl rfl (.slice Ao l.length co) w2 Hr.out ?_) | (at_builtin; refine wpList_append_run _ rfl (.tmp 22) (.tmp 23) 23 rfl _ _ rfl rfl (.slice Am (l.length + 1) cm) w3 Hr3.out ?_) | (go_at_call 13; (with_reducible refine (get_l _ l l.length _ rfl hl hm _ hs0).mono ?_); rintro e w' ⟨rfl, rfl⟩) | (go_at_call 13; (with_reducible refine (get_l _ (l.take s) s _ (by simp; omega) (hl.take s) (by omega) _ (hs3.take s)).mono ?_); rintro e w' ⟨rfl, rfl⟩) | (go_at_call 13; (with_reducible refine (get_l _ (l ++ [0]) (l.length + 1) _ (by simp) (more_is hl) (by omega) _ hsm).mono ?_); rintro e w' ⟨rfl, rfl⟩) | (go_at_call 13; (with_reducible refine (get_l _ (l.take 8) 8 _ (by simp; omega) (hl.take 8) (by omega) _ (hs3.take 8)).mono ?_); rintro e w' ⟨rfl, rfl⟩) | (go_at_call 11; refine (low_w (gN l) s hv hsz _).mono ?_; rintro e w' ⟨rfl, rfl⟩))
        go_ret
        exact ⟨rfl, Ext.trans hb0 (Ext.trans hbp (hb2.trans hb3))⟩
    · have hd8 : decide ((l.length : Int) ≤ 8) = true := by simp; omega
      go_enter Try.func6, Try.ntmps6
      go_wp2_with (first | (go_at_call 7; refine (awake2_c _).mono ?_; rintro e w0 ⟨rfl, hb0⟩) | (go_at_call 8; refine (hp _).mono ?_; rintro e wp ⟨rfl, hbp⟩; have hs0 := (hs.below (B := 0) hb0).below (B := 0) hbp; obtain ⟨Ao, co, w2, hr2, hso, ho2, hb2⟩ := own_copy wp _ l c hs0 hc (by omega); have hs2 := hs0.below (B := 0) hb2; obtain ⟨Am, cm, w3, hr3, hsm, hb3⟩ := own_more w2 wp.heap.size Ao l co ho2 hb2.size (by omega); have hs3 := hs0.below (B := 0) (hb2.trans hb3); have Hr := Lib.hid hr2; have Hr3 := Lib.hid hr3; clear hr2 hr3 ho2) | (at_builtin; refine wpList_append_run _ rfl (.tmp 20) (.tmp 21) 23 rfl _ _ rfl rfl (.slice Ao l.length co) w2 Hr.out ?_) | (at_builtin; refine wpList_append_run _ rfl (.tmp 22) (.tmp 23) 23 rfl _ _ rfl rfl (.slice Am (l.length + 1) cm) w3 Hr3.out ?_) | (go_at_call 13; (with_reducible refine (get_l _ l l.length _ rfl hl hm _ hs0).mono ?_); rintro e w' ⟨rfl, rfl⟩) | (go_at_call 13; (with_reducible refine (get_l _ (l ++ [0]) (l.length + 1) _ (by simp) (more_is hl) (by omega) _ hsm).mono ?_); rintro e w' ⟨rfl, rfl⟩) | (go_at_call 11; refine (low_w (gN l) s hv hsz _).mono ?_; rintro e w' ⟨rfl, rfl⟩))
      go_ret
      exact ⟨rfl, Ext.trans hb0 (Ext.trans hbp (hb2.trans hb3))⟩
  · have hd : decide ((100 : Int) < (l.length : Int)) = true := by simp; omega
    go_enter Try.func6, Try.ntmps6
    go_wp2_with (go_at_call 7; refine (awake2_c _).mono ?_; rintro e wq ⟨rfl, hbq⟩)
    go_ret
    exact ⟨rfl, Ext.trans (by assumption) hbq⟩
end Go.Proofs.Ytbnijcgcicecjaa
