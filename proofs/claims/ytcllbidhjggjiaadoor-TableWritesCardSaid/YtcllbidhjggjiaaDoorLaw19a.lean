/- Layer 19's laws: what they take of package table (TableC). -/
import Derived.Test.YtcllbidhjggjiaaDoorGrtab
import Derived.Test.YtcllbidhjggjiaaDoorGrsix
import Derived.Test.YtcllbidhjggjiaaDoorRfive
import Derived.Test.YtcllbidhjggjiaaDoorGflo
import Derived.Test.YtcllbidhjggjiaaDoorGrpoo
namespace Go.Proofs.YtcllbidhjggjiaaDoor
open Go.ChangeShapes Go.WideShapes Go.ChangeAt Go.RowKit
set_option linter.unusedVariables false
set_option linter.unusedSimpArgs false
set_option maxRecDepth 10000

/-- the spot of an address, of the level 0 -/
def spotN (L : List (Nat × Nat)) (n t a : Nat) : Spt := ⟨(reachT L a 0 n t).1, ((reachT L a 0 n t).2 : Int), tE L (reachT L a 0 n t).1 (ixN a (reachT L a 0 n t).2)⟩
/-- a table's word written -/
def stS (L : List (Nat × Nat)) (s j v : Nat) : List (Nat × Nat) := storeL L (8 * (512 * s + j)) 8 v
theorem st_set {L : List (Nat × Nat)} {s j : Nat} {p : Pt} (hj : j < 512) (hp : mayB p = true) : SetAt L (stS L s j (putN p)) s j p := by
  have h := setAt_of (L := L) (K := stS L s j (putN p)) (s := s) (j := j) (v := putN p) hj fun r => by
    unfold stS
    rw [store8_word (by omega) (put_lt hp)]
    rw [show 8 * (512 * s + j) / 8 = 512 * s + j by omega]
  rwa [get_put hp] at h
theorem TreeOk.of {S : Nat} {L K : List (Nat × Nat)} {n t : Nat} (h : TreeOk S L n t) (e : tabs K n t = tabs L n t) : TreeOk S K n t :=
  ⟨by rw [e]; exact h.lt, by rw [e]; exact h.nd, by rw [e]; exact h.le⟩
/-- where a spot lies -/
structure SpotIn (S : Nat) (L : List (Nat × Nat)) (n t a : Nat) (s l j : Nat) : Prop where
  e : spotN L n t a = ⟨s, (l : Int), tE L s j⟩
  r : reachT L a 0 n t = (s, l)
  m : (s, l) ∈ tabs L n t
  lt : s < S / 4096
  le : l ≤ n
  je : j = ixN a l
  j5 : j < 512
  go : goB L s j l = false
theorem spot_in {S : Nat} {L : List (Nat × Nat)} {n t : Nat} (hT : TreeOk S L n t) (a : Nat) : ∃ s l j, SpotIn S L n t a s l j := by
  have hm := reach_mem L a 0 n t
  exact ⟨(reachT L a 0 n t).1, (reachT L a 0 n t).2, ixN a (reachT L a 0 n t).2, rfl, rfl, hm, hT.lt _ hm, tabs_le hm, rfl, ixN_lt _ _, reach0_end L a n t⟩
/-- a word written at a spot: it is reached, and other spots are as they were -/
structure Wrote (S : Nat) (L K : List (Nat × Nat)) (n t a s l j : Nat) (p : Pt) : Prop where
  tree : TreeOk S K n t
  tab : tabs K n t = tabs L n t
  spot : spotN K n t a = ⟨s, (l : Int), p⟩
  other : ∀ o, ¬ ((spotN L n t o).tb = s ∧ ixN a l = ixN o l) → spotN K n t o = spotN L n t o
theorem wrote {S : Nat} {L : List (Nat × Nat)} {n t a s l j : Nat} {p : Pt} (hT : TreeOk S L n t) (h : SpotIn S L n t a s l j) (hp : mayB p = true) (hl : (linkB p && !badB p (l : Int)) = false) : Wrote S L (stS L s j (putN p)) n t a s l j p := by
  have hs := st_set (L := L) (s := s) (j := j) h.j5 hp
  have e1 := hs.tab hT h.m h.go hl
  have er := fun o => hs.reach o hT h.m h.go hl
  generalize stS L s j (putN p) = K at *
  refine ⟨hT.of e1, e1, ?_, fun o ho => ?_⟩
  · unfold spotN
    rw [er a, h.r]
    show (⟨s, (l : Int), tE K s (ixN a l)⟩ : Spt) = _
    rw [← h.je, hs s j h.j5, if_pos ⟨rfl, rfl⟩]
  · unfold spotN at ho ⊢
    rw [er o]
    have hm := reach_mem L o 0 n t
    generalize reachT L o 0 n t = x at *
    have hne : ¬ (x.1 = s ∧ ixN o x.2 = j) := fun q => by
      have e3 := hT.level hm h.m q.1
      have e4 := q.2
      rw [e3] at e4
      exact ho ⟨q.1, by rw [← h.je]; exact e4.symm⟩
    rw [hs x.1 _ (ixN_lt _ _), if_neg hne]
attribute [irreducible] spotN stS
/-- a memory that is answered -/
def MdT (S : Nat) (K : List (Nat × Nat)) (w : World) (r : Ending) (w' : World) : Prop := ∃ B d, r = .returned (.agg #[.int .u64 (S : Int), .slice B K.length d]) ∧ Mem w' S B K d ∧ Ext w w'
theorem nm1 (w : World) (H : Array Value) : Blk (w.alloc (.cells #[.int .u64 0, .slice none 0 0] 25)) w.heap.size 25 #[.int .u64 0, .slice none 0 0] ∧ Ext w ((w.alloc (.cells #[.int .u64 0, .slice none 0 0] 25)).setRow w.heap.size H) ∧ Blk ((w.alloc (.cells #[.int .u64 0, .slice none 0 0] 25)).setRow w.heap.size H) w.heap.size 25 H :=
  ⟨Blk.new _ _ _, ((Ext.refl w).alloc _).row (Nat.le_refl _) _, (Blk.new _ _ _).row _⟩
def KG : Wide Pg := ⟨49, 44, 8, 32, pgC, ⟨0, 0, 0, ⟨false, false, false, false⟩, false⟩⟩
theorem kg_ok : WideOk KG := ⟨pgC_size, pgC_one, by decide, Tryd.underlying44, ⟨.agg #[.int .u64 0, .int .u64 0, .int .i64 0, .bool false, .bool false, .bool false, .bool false, .bool false], by kernel_rfl, rfl⟩⟩
/-- a memory, a pool, a frame and an error that are answered -/
def FrT (S : Nat) (K : List (Nat × Nat)) (P M F f : Nat) (e : Int) (w : World) (r : Ending) (w' : World) : Prop :=
  ∃ B d, r = .returned (.tuple #[.agg #[.int .u64 (S : Int), .slice B K.length d], (.agg #[.int .u64 (P : Int), .int .i64 (M : Int), .int .u64 (F : Int)]), .int .u64 (f : Int), .int .i64 e]) ∧ Mem w' S B K d ∧ Ext w w'
/-- a frame whose words are 0 -/
def clrF (L : List (Nat × Nat)) (f : Nat) : List (Nat × Nat) := clearL L (512 * f) (512 * f + 512)
/-- a memory that is answered, in a block of the call's own -/
def MdO (S : Nat) (K : List (Nat × Nat)) (w : World) (r : Ending) (w' : World) : Prop := ∃ B d, r = .returned (.agg #[.int .u64 (S : Int), .slice B K.length d]) ∧ Mem w' S B K d ∧ (∀ lo, Out lo w.heap.size B K.length) ∧ Ext w w'
/-- are all words of a frame 0? -/
def empB (L : List (Nat × Nat)) (f : Nat) : Bool := L.all fun x => x.1 / 512 != f
/-- what package table answers, in worlds of which T holds -/
structure TableC (T : World → Prop) : Prop where
  ext : ∀ w w', T w → Ext w w' → T w'
  reach : ∀ {S : Nat} {B : Option Addr} {L : List (Nat × Nat)} {d n t a : Nat} (w : World), Mem w S B L d → n ≤ 2 → TreeOk S L n t → vaB (a : Int) = true → a < 18446744073709551616 → T w →
    Calls Tryd.prog 29 #[.agg #[.int .u64 (S : Int), .slice B L.length d], .int .u64 (t : Int), .int .i64 (n : Int), .int .u64 (a : Int), .int .i64 0] w fun r w' => r = .returned (.agg (sptC (spotN L n t a))) ∧ Ext w w'
  with_ : ∀ {S : Nat} {B : Option Addr} {L : List (Nat × Nat)} {d n t a s l j : Nat} {p : Pt} (w : World), Mem w S B L d → L.length ≤ 990 → n ≤ 2 → TreeOk S L n t → vaB (a : Int) = true → a < 18446744073709551616 → SpotIn S L n t a s l j → mayB p = true → p.ok → T w →
    Calls Tryd.prog 30 #[.agg #[.int .u64 (S : Int), .slice B L.length d], .agg (sptC (spotN L n t a)), .int .u64 (a : Int), .agg (ptC p)] w (MdT S (stS L s j (putN p)) w)
  pagesK : ∀ {S : Nat} {B : Option Addr} {L : List (Nat × Nat)} {d n t : Nat} (w : World), Mem w S B L d → n ≤ 2 → TreeOk S L n t → T w →
    Calls Tryd.prog 21 #[.agg #[.int .u64 (S : Int), .slice B L.length d], .int .u64 (t : Int), .int .i64 (n : Int), .int .u64 0] w (MadeK KG (pgL L n t) w)
  frames : ∀ {S : Nat} {B : Option Addr} {L : List (Nat × Nat)} {d n t : Nat} (w : World), Mem w S B L d → n ≤ 2 → TreeOk S L n t → T w →
    Calls Tryd.prog 37 #[.agg #[.int .u64 (S : Int), .slice B L.length d], .int .u64 (t : Int), .int .i64 (n : Int)] w fun r w' => ∃ A c, r = .returned (.slice A (frs L n t).length c) ∧ RowV KU w' A (frs L n t) c ∧ Ext w w'
  empty : ∀ {S : Nat} {B : Option Addr} {L : List (Nat × Nat)} {d f : Nat} (w : World), Mem w S B L d → f < S / 4096 → T w →
    Calls Tryd.prog 18 #[.agg #[.int .u64 (S : Int), .slice B L.length d], .int .u64 (f : Int)] w fun r w' => r = .returned (.bool (empB L f)) ∧ Ext w w'
  fresh_no : ∀ {S : Nat} {B : Option Addr} {L : List (Nat × Nat)} {d P M : Nat} (w : World), Mem w S B L d → P ≤ 268435456 → M ≤ 64 → T w →
    Calls Tryd.prog 12 #[.agg #[.int .u64 (S : Int), .slice B L.length d], .agg #[.int .u64 (P : Int), .int .i64 (M : Int), .int .u64 0]] w (FrT S L P M 0 0 8 w)
  fresh_yes : ∀ {S : Nat} {B : Option Addr} {L : List (Nat × Nat)} {d P M F : Nat} (w : World), Mem w S B L d → P ≤ 268435456 → M ≤ 64 → F < 2 ^ M → F ≠ 0 → (P + M) * 4096 ≤ S → T w →
    Calls Tryd.prog 12 #[.agg #[.int .u64 (S : Int), .slice B L.length d], (.agg #[.int .u64 (P : Int), .int .i64 (M : Int), .int .u64 (F : Int)])] w (FrT S (clrF L (P + lowN' F)) P M (takeF F) (P + lowN' F) 0 w)
  back : ∀ {S : Nat} {B : Option Addr} {L : List (Nat × Nat)} {d P M F f : Nat} (w : World), Mem w S B L d → P ≤ 268435456 → M ≤ 64 → F < 2 ^ M → isB P M F f = true → (P + M) * 4096 ≤ S → T w →
    Calls Tryd.prog 16 #[.agg #[.int .u64 (S : Int), .slice B L.length d], (.agg #[.int .u64 (P : Int), .int .i64 (M : Int), .int .u64 (F : Int)]), .int .u64 (f : Int)] w fun r w' => ∃ B' d', r = .returned (.tuple #[.agg #[.int .u64 (S : Int), .slice B' (clrF L f).length d'], (.agg #[.int .u64 (P : Int), .int .i64 (M : Int), .int .u64 (freedN P M F f : Int)])]) ∧ Mem w' S B' (clrF L f) d' ∧ Ext w w'
theorem TableC.pages {T : World → Prop} (C : TableC T) {S : Nat} {B : Option Addr} {L : List (Nat × Nat)} {d n t : Nat} (w : World) (hM : Mem w S B L d) (hn : n ≤ 2) (hT : TreeOk S L n t) (h : T w) :
    Calls Tryd.prog 21 #[.agg #[.int .u64 (S : Int), .slice B L.length d], .int .u64 (t : Int), .int .i64 (n : Int), .int .u64 0] w fun r w' => ∃ A c, r = .returned (.slice A (pgL L n t).length c) ∧ RowV KG w' A (pgL L n t) c ∧ (∀ a, A = some a → w.heap.size ≤ a.block) ∧ Ext w w' :=
  (C.pagesK w hM hn hT h).mono fun r w' ⟨v, h1, h2, h3⟩ => by
    obtain ⟨A, c, rfl, hr, hb⟩ := own_rowv kg_ok h2
    exact ⟨A, c, h1, hr, hb, h3⟩
/-- what awake answers -/
def Awk19 (T : World → Prop) : Prop := ∀ w, T w → Calls Tryd.prog 8 #[] w fun r w' => r = .returned (.bool true) ∧ Ext w w'
end Go.Proofs.YtcllbidhjggjiaaDoor
