/- BytesKeeps: what is handed in stays; what is answered is new memory. -/
import Derived.Test.YtbnijcgcicecjaaLaw02c
namespace Go.Proofs.Ytbnijcgcicecjaa
open Go.ChangeShapes Go.WideShapes Go.ChangeAt Go.RowKit
set_option linter.unusedVariables false

/-- bytes appended to a slice of the call's own -/
theorem run_append_slb (w : World) (base : Nat) (v : Value) (n : Nat) (xs : List Value) (hown : w.ownsRow base 5 1 v n xs) (A : Option Addr) (l : List Nat) (c : Nat) (hs : SlB w A l) (hc : A = none → l = [] ∧ c = 0)
    (hn : n + l.length ≤ 1000) (hb : base ≤ w.heap.size) (ty : TypeId) :
    ∃ v' w', (Builtin.append_ #[23, 23] ty #[v, .slice A l.length c]).run Try.prog w = .ok v' w' ∧ w'.ownsRow base 5 1 v' (n + l.length) (xs ++ byteVs l) ∧ w.grownBy w' v.ownBlock := by
  obtain ⟨i0, hi, hz0, hz1, hz2⟩ := info_parts u8_info
  rcases A with _ | a
  · obtain ⟨rfl, rfl⟩ := hc rfl
    exact ⟨v, w, run_append_owned_none w base 23 ty 5 i0 1 Try.underlying23 hi v n xs hown, by simpa [byteVs] using hown, World.grownBy.refl w _⟩
  · obtain ⟨v', w', h1, h2, h3, _⟩ := run_append_own_at (P := Try.prog) w base 23 ty 5 i0 (.int .u8 0) 1 1 Try.underlying23 hi hz0 hz1 hz2 rfl (by decide) v n xs hown a l.length c (byteVs l)
      (by rw [byteVs_len, Nat.mul_one]) (by
        intro j u hj
        have hjl : j < l.length := by
          rcases Nat.lt_or_ge j l.length with h | h
          · exact h
          · rw [List.getElem?_eq_none (by rw [byteVs_len]; exact h)] at hj; cases hj
        obtain ⟨b, off, e, _, hcell⟩ := hs (by omega)
        injection e with e
        subst e
        have e2 : (⟨b, off, none⟩ : Addr).add j = ⟨b, off + j, none⟩ := by unfold Addr.add; split <;> simp_all
        rw [e2, hcell j hjl, ← byteVs_get l hjl, hj]) (byteVs_one l) (by unfold maxLen; omega) (by omega) hb
    exact ⟨v', w', h1, h2, h3⟩

theorem wpList_append_run {P : Program} (w : World) {ops : Array Oper} {rest : List Oper} {o : Oper} {a : Act} {Q : Exit → Act → World → Prop} (hg : o.guard = none) (s x : Operand) (t : TypeId)
    (ho : o.op = .call { callee := .builtin .append, args := #[s, x], argTypes := #[t, t] }) (u y : Value) (hs : a.eval s = u) (hx : a.eval x = y) (v' : Value) (w' : World)
    (hrun : (Builtin.append_ #[t, t] o.type #[u, y]).run P w = .ok v' w') (h : wpList P ops Q rest (a.put o.dst v') w') : wpList P ops Q (o :: rest) a w :=
  wpList_plain hg fun K hK => by
    unfold Oper.wp execOp
    simp only [ho, resolve, invoke, builtin, Sem.run_bind, Sem.run_pure, Result.andThen_ok, List.map_toArray, List.map_cons, List.map_nil, hs, hx, hrun]
    exact hK _ _ h

theorem rputt_c (v s : Nat) (v1 : v < 18446744073709551616) (hs : s ≤ 8) (w : World) :
    Calls Try.prog 10 #[.int .u64 (v : Int), .int .i64 (s : Int)] w (MadeT (bytesN v s) s w) :=
  (rputs_c v s v1 hs w).mono fun e w' ⟨A, c, he, h1, h2⟩ => ⟨A, c, by rw [he, bytesN_len], h1, h2⟩
theorem slb_put (w : World) (v s n : Nat) (hn : n = w.heap.size) : SlB (w.alloc (.cells (rowA (byteN v) s) 5)) (some ⟨n, 0, none⟩) (bytesN v s) := by
  subst hn
  intro _
  refine ⟨w.heap.size, 0, rfl, by simp, fun i hi => ?_⟩
  rw [bytesN_len] at hi
  have hb : bAt (bytesN v s) i = byteN v i := by unfold bAt; exact bytesN_at v s i hi
  rw [hb, Nat.zero_add, ← rowA_get (byteN v) hi]
  exact cell_of_row _ _ i _ _ _ (heap_alloc_new w _)
theorem inc_row (v s k : Nat) : (rowA (fun j => if j < k then (byteN v j + 1) % 256 else byteN v j) s).setIfInBounds k (.int .u8 ((((byteN v k : Nat) : Int) + 1) % 256)) = rowA (fun j => if j < k + 1 then (byteN v j + 1) % 256 else byteN v j) s := by
  rw [show ((((byteN v k : Nat) : Int) + 1) % 256) = (((byteN v k + 1) % 256 : Nat) : Int) by omega, rowA_set]
  apply rowA_congr
  intro j hj
  by_cases h1 : j = k
  · subst h1; simp
  · by_cases h2 : j < k
    · simp [h1, h2, show j < k + 1 by omega]
    · simp [h1, h2, show ¬ j < k + 1 by omega]

/-- 'append([]byte{}, b...)' -/
theorem own_copy (w : World) (A : Option Addr) (l : List Nat) (c : Nat) (hs : SlB w A l) (hc : A = none → l = [] ∧ c = 0) (hn : l.length ≤ 1000) :
    ∃ Ao co w', (Builtin.append_ #[23, 23] 23 #[.slice (some ⟨w.heap.size, 0, none⟩) 0 0, .slice A l.length c]).run Try.prog (w.alloc (.cells #[] 5)) = .ok (.slice Ao l.length co) w' ∧
      SlB w' Ao l ∧ w'.ownsRow w.heap.size 5 1 (.slice Ao l.length co) l.length (byteVs l) ∧ Below w.heap.size w w' := by
  have ho := World.ownsRow_lit (base := w.heap.size) (e := 5) (size := 1) w #[] 0 (Nat.le_refl _) (by unfold maxLen; omega) rfl
  have hal := (Below.refl w.heap.size w).alloc (Nat.le_refl _) (.cells #[] 5)
  obtain ⟨v', w', h1, h2, h3⟩ := run_append_slb (w.alloc (.cells #[] 5)) w.heap.size _ 0 [] ho A l c (hs.below (B := 0) hal) hc (by omega) (by simp) 23
  rw [Nat.zero_add, List.nil_append] at h2
  obtain ⟨Ao, co, rfl, hso⟩ := own_slb h2
  exact ⟨Ao, co, w', h1, hso, h2, hal.grown h3 (by simp) (fun k hk => (ho.lt k hk).1)⟩

set_option maxHeartbeats 4000000 in
set_option maxRecDepth 100000 in
theorem BytesKeeps_w (v size : Int) (A : Option Addr) (l : List Nat) (c : Nat) (v0 : 0 ≤ v) (v1 : v < 18446744073709551616) (z0 : 0 ≤ size) (z1 : size < 256)
    (hl : IsBytes l) (hm : l.length ≤ 9223372036854775807) (w : World) (hs : SlB w A l) (hc : A = none → l = [] ∧ c = 0) :
    Calls Try.prog 5 #[.int .u64 v, .int .u8 size, .slice A l.length c] w fun e w' => e = .returned (.bool true) ∧ Below w.heap.size w w' := by
  obtain ⟨V, rfl⟩ := Int.eq_ofNat_of_zero_le v0
  have hV : V < 18446744073709551616 := by omega
  obtain ⟨s, hsz, hp⟩ := pick_s size z0 z1
  have hle := hsz.le
  by_cases h100 : l.length ≤ 100
  · have hd : decide ((100 : Int) < (l.length : Int)) = false := by simp; omega
    go_enter Try.func5, Try.ntmps5
    go_wp2_with (first | (go_at_call 7; refine (awake2_c _).mono ?_; rintro e w0 ⟨rfl, hb0⟩) | (go_at_call 8; refine (hp _).mono ?_; rintro e wp ⟨rfl, hbp⟩; have hs0 := (hs.below (B := 0) hb0).below (B := 0) hbp; obtain ⟨Ao, co, w2, hr2, hso, _, hb2⟩ := own_copy wp A l c hs0 hc (by omega); have hs2 := hs0.below (B := 0) hb2; have Hr := Lib.hid hr2; clear hr2) | (at_builtin; refine wpList_append_run _ rfl (.tmp 22) (.tmp 23) 23 rfl _ _ rfl rfl (.slice Ao l.length co) w2 Hr.out ?_) | (go_at_call 13; refine (bget_c _ _ _ hl hm _ hso).mono ?_; rintro e w' ⟨rfl, rfl⟩) | (go_at_call 9; refine (put_c V s hV hsz _).mono ?_; rintro e w' ⟨rfl, rfl⟩))
    go_loopw [11] (fun i wr => ∃ k : Nat, k ≤ s ∧ i = .int .i64 k ∧ wr = (w2.alloc (.cells (rowA (fun j => if j < k then (byteN V j + 1) % 256 else byteN V j) s) 5)).alloc (.cells (rowA (byteN V) s) 5)) (fun i _ => (s - intOf i).toNat)
    case atStart => exact ⟨0, by omega, rfl, by simp⟩
    case round =>
      obtain ⟨k, hk, rfl, rfl⟩ := hrel
      by_cases hlt : k < s
      · have hin := rowA_get (fun j => if j < k then (byteN V j + 1) % 256 else byteN V j) (n := s) (i := k) hlt
        have hbk := byteN_lt V k
        have hst := Lib.hid (inc_row V s k)
        go_wp2
        go_roundw
        case rel => exact ⟨k + 1, by omega, by go_num, by rw [hst.out]⟩
        case measure => simp [intOf]; omega
      · have hk' : k = s := by omega
        subst hk'
        have hbel : Ext w2 ((w2.alloc (.cells (rowA (fun j => if j < k then (byteN V j + 1) % 256 else byteN V j) k) 5)).alloc (.cells (rowA (byteN V) k) 5)) := ((Below.refl _ _).alloc (Nat.le_refl _) _).alloc (by simp) _
        have hsq := slb_put (w2.alloc (.cells (rowA (fun j => if j < k then (byteN V j + 1) % 256 else byteN V j) k) 5)) V k (w2.heap.size + 1) (by simp)
        have hso3 := hso.below (B := 0) hbel
        have hs3 := hs2.below (B := 0) hbel
        go_wp2
        refine wp_region_seq [(0, false), (1, false), (2, false), (3, false), (4, false), (5, false), (6, false), (7, false), (8, false), (9, false), (10, true), (11, false), (12, false), (13, false), (14, false)] Ext (by kernel_rfl) (by kernel_rfl) Ext.refl (fun _ _ _ => Ext.trans) ?_; simp only [List.map, nth_z, nth_s]
        repeat (first | (refine seq_skip (by rfl) ?_; intro K hK; simp only [Act.put, List.setIfInBounds_toArray, List.set_cons_zero, List.set_cons_succ]; refine hK _ ?_; clear hK K) | (refine seq_skipc (by rfl) ?_; intro K hK; simp only [Act.put, List.setIfInBounds_toArray, List.set_cons_zero, List.set_cons_succ]; refine hK _ ?_; clear hK K) | (refine seq_read (by rfl) (by rfl) ?_; intro K hK; go_big_quiet_op; first | go_big_quiet_on | (refine ⟨_, fun _ _ => rfl, ?_⟩; go_big_quiet_on)))
        refine seq_convert _ _ rfl rfl (by rfl) (fun x hx => run_str x Ao _ co (hso3.below (B := 0) (Ext.of_drew hx))) ?_; intro K hK; simp only [Act.put, List.setIfInBounds_toArray, List.set_cons_zero, List.set_cons_succ]; refine hK _ ?_; clear hK K
        repeat (first | (refine seq_skip (by rfl) ?_; intro K hK; simp only [Act.put, List.setIfInBounds_toArray, List.set_cons_zero, List.set_cons_succ]; refine hK _ ?_; clear hK K) | (refine seq_skipc (by rfl) ?_; intro K hK; simp only [Act.put, List.setIfInBounds_toArray, List.set_cons_zero, List.set_cons_succ]; refine hK _ ?_; clear hK K) | (refine seq_read (by rfl) (by rfl) ?_; intro K hK; go_big_quiet_op; first | go_big_quiet_on | (refine ⟨_, fun _ _ => rfl, ?_⟩; go_big_quiet_on)))
        refine seq_convert _ _ rfl rfl (by rfl) (fun x hx => run_str x A _ c (hs3.below (B := 0) (Ext.of_drew hx))) ?_; intro K hK; simp only [Act.put, List.setIfInBounds_toArray, List.set_cons_zero, List.set_cons_succ]; refine hK _ ?_; clear hK K
        repeat (first | (refine seq_skip (by rfl) ?_; intro K hK; simp only [Act.put, List.setIfInBounds_toArray, List.set_cons_zero, List.set_cons_succ]; refine hK _ ?_; clear hK K) | (refine seq_skipc (by rfl) ?_; intro K hK; simp only [Act.put, List.setIfInBounds_toArray, List.set_cons_zero, List.set_cons_succ]; refine hK _ ?_; clear hK K) | (refine seq_read (by rfl) (by rfl) ?_; intro K hK; go_big_quiet_op; first | go_big_quiet_on | (refine ⟨_, fun _ _ => rfl, ?_⟩; go_big_quiet_on)))
        refine seq_convert _ _ rfl rfl (by rfl) (fun x hx => str_w x _ V k k (hsq.below (B := 0) (Ext.of_drew hx))) ?_; intro K hK; simp only [Act.put, List.setIfInBounds_toArray, List.set_cons_zero, List.set_cons_succ]; refine hK _ ?_; clear hK K
        repeat (first | (refine seq_skip (by rfl) ?_; intro K hK; simp only [Act.put, List.setIfInBounds_toArray, List.set_cons_zero, List.set_cons_succ]; refine hK _ ?_; clear hK K) | (refine seq_skipc (by rfl) ?_; intro K hK; simp only [Act.put, List.setIfInBounds_toArray, List.set_cons_zero, List.set_cons_succ]; refine hK _ ?_; clear hK K) | (refine seq_read (by rfl) (by rfl) ?_; intro K hK; go_big_quiet_op; first | go_big_quiet_on | (refine ⟨_, fun _ _ => rfl, ?_⟩; go_big_quiet_on)))
        refine seq_call (rputt_c V k hV hle.2 _) rfl Try.func10 (by kernel_rfl) (by kernel_rfl) (by rfl) (by rfl) ?_; intro K hK; rintro e w' ⟨A4, c4, rfl, hs5, hb4⟩; refine ⟨_, rfl, hb4, ?_⟩; simp only [Act.put, List.setIfInBounds_toArray, List.set_cons_zero, List.set_cons_succ]; refine hK _ _ ?_; clear hK K
        refine seq_convert _ _ rfl rfl (by rfl) (fun x hx => str_w x A4 V k c4 (hs5.below (B := 0) hx)) ?_; intro K hK; simp only [Act.put, List.setIfInBounds_toArray, List.set_cons_zero, List.set_cons_succ]; refine hK _ ?_; clear hK K
        repeat (first | (refine seq_skip (by rfl) ?_; intro K hK; simp only [Act.put, List.setIfInBounds_toArray, List.set_cons_zero, List.set_cons_succ]; refine hK _ ?_; clear hK K) | (refine seq_skipc (by rfl) ?_; intro K hK; simp only [Act.put, List.setIfInBounds_toArray, List.set_cons_zero, List.set_cons_succ]; refine hK _ ?_; clear hK K) | (refine seq_read (by rfl) (by rfl) ?_; intro K hK; go_big_quiet_op; first | go_big_quiet_on | (refine ⟨_, fun _ _ => rfl, ?_⟩; go_big_quiet_on)))
        refine seq_done ?_
        go_wp2
        go_ret
        exact ⟨rfl, Ext.trans hb0 (Ext.trans hbp (Ext.trans hb2 (Ext.trans hbel (Ext.of_drew hb4))))⟩
  · have hd : decide ((100 : Int) < (l.length : Int)) = true := by simp; omega
    go_enter Try.func5, Try.ntmps5
    go_wp2_with (go_at_call 7; refine (awake2_c _).mono ?_; rintro e wq ⟨rfl, hbq⟩)
    go_ret
    exact ⟨rfl, Ext.trans (by assumption) hbq⟩
end Go.Proofs.Ytbnijcgcicecjaa
