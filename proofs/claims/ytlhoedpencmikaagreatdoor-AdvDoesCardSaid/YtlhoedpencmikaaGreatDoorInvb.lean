/- Regions in whatever order: calls, and boxes that are made and stored into (`x, y := f(g(..))`): what holds behind each operation. -/
import Derived.Test.YtlhoedpencmikaaGreatDoorInv
import Derived.Test.YtlhoedpencmikaaGreatDoorGagg
namespace Go.Proofs.YtlhoedpencmikaaGreatDoor
open Go.ChangeShapes Go.WideShapes Go.ChangeAt Go.RowKit
set_option linter.unusedVariables false
set_option linter.unusedSimpArgs false

/-! one operation -/
theorem op_value {P : Program} {o : Oper} {A : Act} {w w' : World} {N : Act → World → Prop} {Q : Exit → Act → World → Prop} (v : Value) (h : (execOp A.eval o).run P w = .ok (.value v) w') (k : N (A.put o.dst v) w') : o.wp P A w N Q := by
  unfold Oper.wp
  rw [h]
  exact k
theorem op_skip {P : Program} {o : Oper} {A : Act} {w w' : World} {N : Act → World → Prop} {Q : Exit → Act → World → Prop} (h : (execOp A.eval o).run P w = .ok .skip w') (k : N (A.put o.dst undef) w') : o.wp P A w N Q := by
  unfold Oper.wp
  rw [h]
  exact k
theorem op_call {P : Program} {o : Oper} {A : Act} {w : World} {N : Act → World → Prop} {Q : Exit → Act → World → Prop} {f : FuncId} {xs : Array Operand} {ats : Array TypeId} {fn : Func} {args : Array Value} {T : Ending → World → Prop} (hc : Calls P f args w T)
    (hop : o.op = .call { callee := .value (.func f), args := xs, argTypes := ats }) (hf : P.funcs[f]? = some fn) (hn : (fn.name == "runtime.NumGoroutine") = false) (hb : fn.body.isNone = false) (hargs0 : xs.toList.map A.eval = args.toList)
    (h : ∀ e w', T e w' → ∃ v, e = .returned v ∧ N (A.put o.dst v) w') : o.wp P A w N Q := by
  unfold Oper.wp
  obtain ⟨d, op, type, pos, after, guard⟩ := o
  have hargs : xs.map A.eval = args := by apply Array.ext'; rw [← hargs0]; simp
  subst hop hargs
  rw [execOp_call_go, run_callFunc hf hn hb]
  simp only [Oper.upon]
  have e : (#[] ++ xs.map A.eval ++ #[] : Array Value) = xs.map A.eval := by simp
  rw [e]
  exact hc.mono fun e w' ht => by
    obtain ⟨v, he, h2⟩ := h e w' ht
    subst he
    exact h2
theorem op_load {P : Program} {o : Oper} {A : Act} {w : World} {N : Act → World → Prop} {Q : Exit → Act → World → Prop} {ty t : TypeId} {x : Operand} {g : Nat} {cs : Array Value} {d : TypeDesc}
    (hop : o.op = .load ty x) (hx : A.eval x = .pointer (some ⟨g, 0, none⟩)) (hb : Blk w g t cs) (hd : (match d with | .struct _ | .array _ _ => true | _ => false) = true) (hu : P.underlying ty = some d) (hi : (P.info? ty).map (·.size) = some cs.size)
    (k : N (A.put o.dst (.agg cs)) w) : o.wp P A w N Q :=
  op_value (.agg cs) (by
    unfold execOp
    simp only [hop, hx, Instr.loadAt, Instr.sureAddr, Sem.run_bind, Sem.run_pure, Result.andThen_ok, run_loadVar_row w g t ty cs (0, 0) d hb hu (by cases d <;> first | rfl | exact hd) hi]) k
theorem op_store {P : Program} {o : Oper} {A : Act} {w : World} {N : Act → World → Prop} {Q : Exit → Act → World → Prop} {ty t : TypeId} {x y : Operand} {g : Nat} {cs old : Array Value}
    (hop : o.op = .store ty x y) (hx : A.eval x = .pointer (some ⟨g, 0, none⟩)) (hy : A.eval y = .agg cs) (hb : Blk w g t old) (hi : (P.info? ty).map (·.size) = some cs.size) (hold : old.size = cs.size) (h1 : cs.all (·.oneCell') = true)
    (k : N (A.put o.dst undef) (w.setRow g cs)) : o.wp P A w N Q :=
  op_skip (by
    unfold execOp
    simp only [hop, hx, hy, Instr.storeAt, Instr.sureAddr, Sem.run_bind, Sem.run_pure, Result.andThen_ok, run_storeVar_row w g t ty old cs hb hi hold h1]) k
theorem op_read {P : Program} {o : Oper} {A : Act} {w : World} {N : Act → World → Prop} {Q : Exit → Act → World → Prop} {x : Operand} {u : Value} (v : Value) (hx : A.eval x = u) (h : ∀ E : Operand → Value, E x = u → (execOp E o).run P w = .ok (.value v) w) (k : N (A.put o.dst v) w) : o.wp P A w N Q :=
  op_value v (h A.eval hx) k
theorem op_alloc {P : Program} {o : Oper} {A : Act} {w : World} {N : Act → World → Prop} {Q : Exit → Act → World → Prop} (z : Array Value) (t : TypeId) (h : ∀ E : Operand → Value, (execOp E o).run P w = .ok (.value (.pointer (some ⟨w.heap.size, 0, none⟩))) (w.alloc (.cells z t))) (k : N (A.put o.dst (.pointer (some ⟨w.heap.size, 0, none⟩))) (w.alloc (.cells z t))) : o.wp P A w N Q :=
  op_value _ (h A.eval) k
theorem args1 {A : Act} {x : Operand} {u : Value} (h : A.eval x = u) : [x].map A.eval = [u] := by simp [h]
theorem args4 {A : Act} {x y z t : Operand} {u v r s : Value} (h1 : A.eval x = u) (h2 : A.eval y = v) (h3 : A.eval z = r) (h4 : A.eval t = s) : [x, y, z, t].map A.eval = [u, v, r, s] := by simp [h1, h2, h3, h4]
/-! slots -/
theorem eval_at {vs : List (Option Nat × Value)} {bs : List Bool} {a : Act} {i j : Nat} {v : Value} (hd : distD (vs.map (·.1)) = true) (hv : vs[i]? = some (some j, v)) (hb : bs[i]? = some true) (hj : j < a.tmps.size) : (putsB vs bs a).eval (.tmp j) = v := by
  have := putsB_at vs bs a i j v hd hv hb hj
  unfold Act.eval
  simp [Array.getD_eq_getD_getElem?, this]
theorem eval_out {vs : List (Option Nat × Value)} {bs : List Bool} {a : Act} {j : Nat} (h : apartD (some j) (vs.map (·.1)) = true) : (putsB vs bs a).eval (.tmp j) = a.eval (.tmp j) := by
  have := putsB_out vs bs a j h
  unfold Act.eval
  simp [Array.getD_eq_getD_getElem?, this]
theorem next_at {X : Type} {vals : X → List (Option Nat × Value)} {F : X → List Bool → World → Prop} {a : Act} {bs : List Bool} {k : Nat} {p : Option Nat} {x : X} (y : X) {v : Value} {w' : World} (hxy : (vals y).map (·.1) = (vals x).map (·.1)) (hd : distD ((vals x).map (·.1)) = true)
    (hb : bs[k]? = some false) (hv : (vals y)[k]? = some (p, v)) (hs : ∀ j : Nat, bs[j]? = some true → (vals y)[j]? = (vals x)[j]?) (hF : F y (bs.set k true) w') : NextP vals F a bs k ((putsB (vals x) bs a).put p v) w' := by
  refine ⟨y, ?_, hF⟩
  refine putsB_step (vals x) (vals y) bs k (p, v) a ?_ hxy hd hb hv hs
  have h1 := congrArg List.length hxy
  simp at h1
  omega
/-! boxes -/
structure Bx (Y : Type) where
  al : Nat
  st : Nat
  t : TypeId
  z : Array Value
  fin : Y → Array Value
/-- what holds, as far as the operations bs have come up: the world only grows; what the calls told (from the operation c on); each box that was made -/
structure FB {Y : Type} (w0 : World) (c : Nat) (G : Y → World → Prop) (away : Y → Nat → Prop) (boxes : List (Bx Y)) (x : (Nat → Nat) × Y) (bs : List Bool) (w : World) : Prop where
  e : Ext w0 w
  g : bs[c]? = some true → G x.2 w
  b : ∀ (i : Nat) (b : Bx Y), boxes[i]? = some b → bs[b.al]? = some true → w0.heap.size ≤ x.1 i ∧ Blk w (x.1 i) b.t (if bs[b.st]? = some true then b.fin x.2 else b.z)
  n : ∀ (i j : Nat) (b d : Bx Y), i ≠ j → boxes[i]? = some b → boxes[j]? = some d → bs[b.al]? = some true → bs[d.al]? = some true → x.1 i ≠ x.1 j
  s : ∀ (i : Nat) (b : Bx Y), boxes[i]? = some b → bs[b.st]? = some true → bs[b.al]? = some true ∧ bs[c]? = some true
  a : ∀ (i : Nat) (b : Bx Y), boxes[i]? = some b → bs[b.al]? = some true → bs[c]? = some true → away x.2 (x.1 i)
section
variable {Y : Type} {w0 : World} {c : Nat} {G : Y → World → Prop} {away : Y → Nat → Prop} {boxes : List (Bx Y)} {x : (Nat → Nat) × Y} {bs : List Bool} {w : World}
theorem set_ne {bs : List Bool} {k j : Nat} (h : k ≠ j) : (bs.set k true)[j]? = bs[j]? := by rw [List.getElem?_set_ne h]
theorem set_true {bs : List Bool} {k j : Nat} (h : (bs.set k true)[j]? = some true) : j = k ∨ bs[j]? = some true := by
  by_cases e : k = j
  · exact .inl e.symm
  · rw [set_ne e] at h; exact .inr h
theorem FB.start (h : ∀ i : Nat, ¬ bs[i]? = some true) : FB w0 c G away boxes x bs w0 :=
  ⟨Ext.refl _, fun hg => absurd hg (h _), fun _ _ _ ha => absurd ha (h _), fun _ _ _ _ _ _ _ ha => absurd ha (h _), fun _ _ _ hs => absurd hs (h _), fun _ _ _ ha => absurd ha (h _)⟩
theorem not_yet {n i : Nat} : ¬ (List.replicate n false)[i]? = some true := by
  intro h
  have := List.mem_of_getElem? h
  rw [List.mem_replicate] at this
  exact absurd this.2 (by decide)
theorem two_boxes {b1 b2 : Bx Y} {p : Nat → Bx Y → Prop} (h1 : p 0 b1) (h2 : p 1 b2) : ∀ (i : Nat) (b : Bx Y), ([b1, b2] : List (Bx Y))[i]? = some b → p i b
  | 0, b, h => by obtain rfl := Option.some.inj h; exact h1
  | 1, b, h => by obtain rfl := Option.some.inj h; exact h2
  | n + 2, b, h => by simp at h
/-- behind an operation that only reads (or a quiet call that is none of the box's) -/
theorem FB.read (h : FB w0 c G away boxes x bs w) {k : Nat} (hk : k ≠ c) (hb : ∀ (i : Nat) (b : Bx Y), boxes[i]? = some b → k ≠ b.al ∧ k ≠ b.st) : FB w0 c G away boxes x (bs.set k true) w := by
  refine ⟨h.e, fun hg => h.g (by rwa [set_ne hk] at hg), fun i b hi ha => ?_, fun i j b d hij hi hj ha hd => ?_, fun i b hi hs => ?_, fun i b hi ha hc => ?_⟩
  · obtain ⟨h1, h2⟩ := hb i b hi
    rw [set_ne h1] at ha
    rw [set_ne h2]
    exact h.b i b hi ha
  · rw [set_ne (hb i b hi).1] at ha
    rw [set_ne (hb j d hj).1] at hd
    exact h.n i j b d hij hi hj ha hd
  · rw [set_ne (hb i b hi).2] at hs
    rw [set_ne (hb i b hi).1, set_ne hk]
    exact h.s i b hi hs
  · rw [set_ne (hb i b hi).1] at ha
    rw [set_ne hk] at hc
    exact h.a i b hi ha hc
/-- in a later world -/
theorem FB.ext (h : FB w0 c G away boxes x bs w) {w' : World} (hE : Ext w w') (hG : ∀ y, G y w → G y w') : FB w0 c G away boxes x bs w' :=
  ⟨h.e.trans hE, fun hg => hG _ (h.g hg), fun i b hi ha => ⟨(h.b i b hi ha).1, (h.b i b hi ha).2.ext hE⟩, h.n, h.s, h.a⟩
/-- behind a box's making -/
theorem FB.make (h : FB w0 c G away boxes x bs w) {i : Nat} {b : Bx Y} (hi : boxes[i]? = some b) (hbs : bs[b.al]? = some false) (hc : b.al ≠ c) (hG : ∀ y, G y w → G y (w.alloc (.cells b.z b.t))) (hA : ∀ y, G y w → away y w.heap.size)
    (hal : ∀ (j : Nat) (d : Bx Y), boxes[j]? = some d → (d.al = b.al ↔ j = i) ∧ d.st ≠ b.al) : FB w0 c G away boxes (fun j => if j = i then w.heap.size else x.1 j, x.2) (bs.set b.al true) (w.alloc (.cells b.z b.t)) := by
  have hE := (Ext.refl w).alloc (.cells b.z b.t)
  have hlen : b.al < bs.length := (List.getElem?_eq_some_iff.1 hbs).1
  refine ⟨h.e.trans hE, fun hg => hG _ (h.g (by rwa [set_ne hc] at hg)), fun j d hj ha => ?_, fun j k d e hjk hj hk ha he => ?_, fun j d hj hs => ?_, fun j d hj ha hcc => ?_⟩
  · rw [set_ne (hal j d hj).2.symm]
    by_cases hji : j = i
    · subst hji
      have hdb : d = b := by rw [hi] at hj; exact (Option.some.inj hj).symm
      subst hdb
      simp only [if_true]
      refine ⟨h.e.size, ?_⟩
      have hst : ¬ bs[d.st]? = some true := fun hq => by
        have := (h.s j d hj hq).1
        rw [hbs] at this; cases this
      rw [if_neg hst]
      exact Blk.new w _ _
    · simp only [if_neg hji]
      have hne : b.al ≠ d.al := fun e => hji (((hal j d hj).1).1 e.symm)
      rw [set_ne hne] at ha
      have := h.b j d hj ha
      exact ⟨this.1, this.2.ext hE⟩
  · have hlt : ∀ (q : Nat) (f : Bx Y), boxes[q]? = some f → q ≠ i → (bs.set b.al true)[f.al]? = some true → x.1 q < w.heap.size := fun q f hq hqi hf => by
      have hne : b.al ≠ f.al := fun e => hqi (((hal q f hq).1).1 e.symm)
      rw [set_ne hne] at hf
      exact (h.b q f hq hf).2.lt
    by_cases h1 : j = i
    · subst h1
      have h2 := hlt k e hk hjk.symm he
      simp only [if_true, if_neg hjk.symm]
      omega
    · by_cases h2 : k = i
      · subst h2
        have h3 := hlt j d hj h1 ha
        simp only [if_true, if_neg h1]
        omega
      · simp only [if_neg h1, if_neg h2]
        have n1 : b.al ≠ d.al := fun e => h1 (((hal j d hj).1).1 e.symm)
        have n2 : b.al ≠ e.al := fun e' => h2 (((hal k e hk).1).1 e'.symm)
        rw [set_ne n1] at ha
        rw [set_ne n2] at he
        exact h.n j k d e hjk hj hk ha he
  · rw [set_ne (hal j d hj).2.symm] at hs
    have h1 := h.s j d hj hs
    have hne : b.al ≠ d.al := fun e => by rw [← e, hbs] at h1; cases h1.1
    rw [set_ne hne, set_ne hc]
    exact h1
  · rw [set_ne hc] at hcc
    by_cases hji : j = i
    · subst hji
      simp only [if_true]
      exact hA _ (h.g hcc)
    · simp only [if_neg hji]
      have hne : b.al ≠ d.al := fun e => hji (((hal j d hj).1).1 e.symm)
      rw [set_ne hne] at ha
      exact h.a j d hj ha hcc
/-- behind a store into a box -/
theorem FB.fill (h : FB w0 c G away boxes x bs w) {i : Nat} {b : Bx Y} (hi : boxes[i]? = some b) (hbs : bs[b.st]? = some false) (ha : bs[b.al]? = some true) (hc : bs[c]? = some true) (hcs : b.st ≠ c) (hG : ∀ y g cs, away y g → G y w → G y (w.setRow g cs))
    (hal : ∀ (j : Nat) (d : Bx Y), boxes[j]? = some d → (d.st = b.st ↔ j = i) ∧ d.al ≠ b.st) : FB w0 c G away boxes x (bs.set b.st true) (w.setRow (x.1 i) (b.fin x.2)) := by
  have hlen : b.st < bs.length := (List.getElem?_eq_some_iff.1 hbs).1
  have hbi := h.b i b hi ha
  refine ⟨h.e.row hbi.1 _, fun hg => hG _ _ _ (h.a i b hi ha hc) (h.g hc), fun j d hj hd => ?_, fun j k d e hjk hj hk hd he => ?_, fun j d hj hs => ?_, fun j d hj hd _ => ?_⟩
  · rw [set_ne (hal j d hj).2.symm] at hd
    have hj2 := h.b j d hj hd
    by_cases hji : j = i
    · subst hji
      have hdb : d = b := by rw [hi] at hj; exact (Option.some.inj hj).symm
      subst hdb
      rw [List.getElem?_set_self hlen, if_pos rfl]
      exact ⟨hj2.1, hj2.2.row _⟩
    · have hne : b.st ≠ d.st := fun e => hji (((hal j d hj).1).1 e.symm)
      rw [set_ne hne]
      exact ⟨hj2.1, hj2.2.apart (h.n j i d b hji hj hi hd ha) _⟩
  · rw [set_ne (hal j d hj).2.symm] at hd
    rw [set_ne (hal k e hk).2.symm] at he
    exact h.n j k d e hjk hj hk hd he
  · rw [set_ne (hal j d hj).2.symm, set_ne hcs]
    rcases set_true hs with e | e
    · have := ((hal j d hj).1).1 e
      subst this
      have hdb : d = b := by rw [hi] at hj; exact (Option.some.inj hj).symm
      subst hdb
      exact ⟨ha, hc⟩
    · exact h.s j d hj e
  · rw [set_ne (hal j d hj).2.symm] at hd
    exact h.a j d hj hd hc
/-- behind the call that tells -/
theorem FB.tell (h : FB w0 c G away boxes x bs w) (hbs : bs[c]? = some false) {y : Y} {w' : World} (hE : Ext w w') (hG : G y w') (hA : ∀ g, w0.heap.size ≤ g → g < w.heap.size → away y g) (hal : ∀ (j : Nat) (d : Bx Y), boxes[j]? = some d → d.al ≠ c ∧ d.st ≠ c) :
    FB w0 c G away boxes (x.1, y) (bs.set c true) w' := by
  refine ⟨h.e.trans hE, fun _ => hG, fun j d hj hd => ?_, fun j k d e hjk hj hk hd he => ?_, fun j d hj hs => ?_, fun j d hj hd _ => ?_⟩
  · rw [set_ne (hal j d hj).1.symm] at hd
    have h1 := h.b j d hj hd
    have hst : ¬ bs[d.st]? = some true := fun hq => by
      have := (h.s j d hj hq).2
      rw [hbs] at this; cases this
    rw [if_neg hst] at h1
    rw [set_ne (hal j d hj).2.symm, if_neg hst]
    exact ⟨h1.1, h1.2.ext hE⟩
  · rw [set_ne (hal j d hj).1.symm] at hd
    rw [set_ne (hal k e hk).1.symm] at he
    exact h.n j k d e hjk hj hk hd he
  · rw [set_ne (hal j d hj).2.symm] at hs
    have := (h.s j d hj hs).2
    rw [hbs] at this; cases this
  · rw [set_ne (hal j d hj).1.symm] at hd
    have h1 := h.b j d hj hd
    exact hA _ h1.1 h1.2.lt
end
end Go.Proofs.YtlhoedpencmikaaGreatDoor
