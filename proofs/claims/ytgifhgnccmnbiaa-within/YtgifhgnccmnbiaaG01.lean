/- The reader of patterns, the reader's small functions, as plain functions on the text, the place and the mark of failure. No Go in it. -/
import Derived.Test.YtgifhgnccmnbiaaRows
import Derived.WalkKit
import Derived.WalkSpells
import Derived.WalkLawsBesides
import Derived.BigQuiet
import Derived.Deep.QuietTactic
import Derived.Deep.RegionWith
set_option linter.unusedVariables false
set_option linter.unusedSimpArgs false
namespace Go.Proofs.Ytgifhgnccmnbiaa

/-- The byte at a place, -1 behind the last one. -/
def pk (t : ByteArray) (p : Nat) : Int := if h : p < t.size then (t[p].toNat : Int) else -1

theorem pk_lt {t : ByteArray} {p : Nat} (h : p < t.size) : pk t p = (t[p].toNat : Int) := dif_pos h
theorem pk_ge {t : ByteArray} {p : Nat} (h : ¬ p < t.size) : pk t p = -1 := dif_neg h
theorem pk_bd (t : ByteArray) (p : Nat) : -1 ≤ pk t p ∧ pk t p ≤ 255 := by
  by_cases h : p < t.size
  · rw [pk_lt h]; have := t[p].toNat_lt; omega
  · rw [pk_ge h]; omega
theorem pk_none {t : ByteArray} {p : Nat} : pk t p = -1 ↔ ¬ p < t.size := by
  constructor
  · intro h hl; rw [pk_lt hl] at h; omega
  · exact pk_ge
theorem pk_some {t : ByteArray} {p : Nat} (h : 0 ≤ pk t p) : p < t.size := by
  by_cases hl : p < t.size
  · exact hl
  · rw [pk_ge hl] at h; omega

abbrev RS := Nat × Bool
def failS (t : ByteArray) : RS := (t.size, true)
def nextS (t : ByteArray) (s : RS) : Int × RS := if pk t s.1 = -1 then (0, failS t) else (pk t s.1, (s.1 + 1, s.2))
def takeS (t : ByteArray) (c : Int) (s : RS) : Bool × RS := if pk t s.1 = c then (true, (s.1 + 1, s.2)) else (false, s)
def endS (t : ByteArray) (s : RS) : Bool := pk t s.1 == -1 || pk t s.1 == 124 || pk t s.1 == 41
def repS (t : ByteArray) (s : RS) : Bool := pk t s.1 == 42 || pk t s.1 == 43 || pk t s.1 == 63 || pk t s.1 == 123
def itemQ (t : ByteArray) (s : RS) : Bool := pk t s.1 != -1 && pk t s.1 != 93
def secS (t : ByteArray) (s : RS) : Bool := pk t s.1 == 45 && pk t (s.1 + 1) != -1 && pk t (s.1 + 1) != 93
def memS (t : ByteArray) (s : RS) : Int × RS := if (nextS t s).1 = 92 then nextS t (nextS t s).2 else nextS t s
def highS (t : ByteArray) (s : RS) : Int × RS :=
  if secS t (memS t s).2 = true then memS t ((memS t s).2.1 + 1, (memS t s).2.2) else memS t s
def itemS (t : ByteArray) (s : RS) : (Int × Int) × RS :=
  (((memS t s).1, (highS t s).1), if (highS t s).1 < (memS t s).1 then failS t else (highS t s).2)
def digS (t : ByteArray) (s : RS) : Int × RS :=
  if (nextS t s).1 < 48 ∨ 57 < (nextS t s).1 then (0, failS t) else ((nextS t s).1 - 48, (nextS t s).2)
def upS (t : ByteArray) (s : RS) : Int × RS := if pk t s.1 = 125 then (-1, s) else digS t s
def mostS (t : ByteArray) (s : RS) : Int × RS :=
  if (takeS t 44 (digS t s).2).1 = true then upS t (takeS t 44 (digS t s).2).2 else ((digS t s).1, (takeS t 44 (digS t s).2).2)
def bracesS (t : ByteArray) (s : RS) : (Int × Int) × RS :=
  if (takeS t 125 (mostS t s).2).1 = false ∨ ((mostS t s).1 ≠ -1 ∧ (mostS t s).1 < (digS t s).1) then ((0, 0), failS t)
  else (((digS t s).1, (mostS t s).1), (takeS t 125 (mostS t s).2).2)
def repeatS (t : ByteArray) (s : RS) : (Int × Int) × RS :=
  if (nextS t s).1 = 42 then ((0, -1), (nextS t s).2)
  else if (nextS t s).1 = 43 then ((1, -1), (nextS t s).2)
  else if (nextS t s).1 = 63 then ((0, 1), (nextS t s).2)
  else bracesS t (nextS t s).2

/-- The place stays within the text. -/
def Fits (t : ByteArray) (s : RS) : Prop := s.1 ≤ t.size
theorem fits_fail (t : ByteArray) : Fits t (failS t) := Nat.le_refl _
theorem fits_next {t : ByteArray} {s : RS} (_h : Fits t s) : Fits t (nextS t s).2 := by
  unfold nextS; split
  · exact fits_fail t
  · rename_i hn; rw [pk_none] at hn; simp only [Fits]; omega
theorem fits_take {t : ByteArray} {s : RS} {c : Int} (hc : 0 ≤ c) (h : Fits t s) : Fits t (takeS t c s).2 := by
  unfold takeS; split
  · rename_i hn; have := pk_some (t := t) (p := s.1) (by omega); simp only [Fits]; omega
  · exact h
theorem fits_mem {t : ByteArray} {s : RS} (h : Fits t s) : Fits t (memS t s).2 := by
  unfold memS; split
  · exact fits_next (fits_next h)
  · exact fits_next h
theorem fits_sec {t : ByteArray} {s : RS} (h : secS t s = true) : s.1 < t.size := by
  simp only [secS, Bool.and_eq_true, beq_iff_eq] at h
  exact pk_some (by omega)
theorem fits_high {t : ByteArray} {s : RS} (h : Fits t s) : Fits t (highS t s).2 := by
  unfold highS; split
  · rename_i hs; exact fits_mem (fits_sec hs)
  · exact fits_mem h
theorem fits_item {t : ByteArray} {s : RS} (h : Fits t s) : Fits t (itemS t s).2 := by
  unfold itemS; simp only []; split
  · exact fits_fail t
  · exact fits_high h
theorem fits_dig {t : ByteArray} {s : RS} (h : Fits t s) : Fits t (digS t s).2 := by
  unfold digS; split
  · exact fits_fail t
  · exact fits_next h
theorem fits_up {t : ByteArray} {s : RS} (h : Fits t s) : Fits t (upS t s).2 := by
  unfold upS; split
  · exact h
  · exact fits_dig h
theorem fits_most {t : ByteArray} {s : RS} (h : Fits t s) : Fits t (mostS t s).2 := by
  unfold mostS; split
  · exact fits_up (fits_take (by omega) (fits_dig h))
  · exact fits_take (by omega) (fits_dig h)
theorem fits_braces {t : ByteArray} {s : RS} (h : Fits t s) : Fits t (bracesS t s).2 := by
  unfold bracesS; split
  · exact fits_fail t
  · exact fits_take (by omega) (fits_most h)
theorem fits_repeat {t : ByteArray} {s : RS} (h : Fits t s) : Fits t (repeatS t s).2 := by
  unfold repeatS
  repeat' split
  all_goals first | exact fits_next h | exact fits_braces (fits_next h)

theorem next_bd (t : ByteArray) (s : RS) : 0 ≤ (nextS t s).1 ∧ (nextS t s).1 ≤ 255 := by
  have := pk_bd t s.1
  unfold nextS; split <;> simp only [] <;> omega
theorem mem_bd (t : ByteArray) (s : RS) : 0 ≤ (memS t s).1 ∧ (memS t s).1 ≤ 255 := by
  unfold memS; split <;> exact next_bd _ _
theorem dig_bd (t : ByteArray) (s : RS) : 0 ≤ (digS t s).1 ∧ (digS t s).1 ≤ 9 := by
  unfold digS; split
  · simp
  · rename_i h; simp only []; omega
theorem up_bd (t : ByteArray) (s : RS) : -1 ≤ (upS t s).1 ∧ (upS t s).1 ≤ 9 := by
  have := dig_bd t s
  unfold upS; split
  · simp
  · omega
theorem most_bd (t : ByteArray) (s : RS) : -1 ≤ (mostS t s).1 ∧ (mostS t s).1 ≤ 9 := by
  have h1 := dig_bd t s
  unfold mostS; split
  · exact up_bd _ _
  · simp only []; omega
theorem repeat_bd (t : ByteArray) (s : RS) : 0 ≤ (repeatS t s).1.1 ∧ (repeatS t s).1.1 ≤ 9 ∧ -1 ≤ (repeatS t s).1.2 ∧ (repeatS t s).1.2 ≤ 9 := by
  have h1 := dig_bd t (nextS t s).2
  have h2 := most_bd t (nextS t s).2
  unfold repeatS
  repeat' split
  all_goals try simp
  unfold bracesS
  split
  · simp
  · simp only []; omega

end Go.Proofs.Ytgifhgnccmnbiaa

set_option linter.unusedVariables false
set_option linter.unusedSimpArgs false
namespace Go.Proofs.Ytgifhgnccmnbiaa

/-- A node of a pattern. -/
structure AN where
  kind : Int
  its : List (Int × Int) := []
  neg : Bool := false
  left : Int := 0
  right : Int := 0
  least : Int := 0
  most : Int := 0
  size : Int

/-- No size is above 61. -/
def capN (n : AN) : AN := { n with size := if 61 < n.size then 61 else n.size }

abbrev PS := RS × List AN
def sizeAt (ns : List AN) (i : Nat) : Int := ((ns[i]?).map AN.size).getD 0
def addS (n : AN) (st : PS) : Nat × PS := (st.2.length, (st.1, st.2 ++ [capN n]))
def joinS (kind : Int) (l r : Nat) (st : PS) : Nat × PS := addS { kind := kind, left := l, right := r, size := sizeAt st.2 l + sizeAt st.2 r } st
def timesS (least most : Int) : Int := if (if most = -1 then least else most) < 1 then 1 else (if most = -1 then least else most)
def againS (p : Nat) (lm : Int × Int) (st : PS) : Nat × PS :=
  addS { kind := 6, left := p, least := lm.1, most := lm.2, size := sizeAt st.2 p * timesS lm.1 lm.2 } st
def bytesS (lo hi : Int) (st : PS) : Nat × PS := addS { kind := 1, its := [(lo, hi)], size := 1 } st

/-- All sizes lie in 0 .. 61. -/
def Sized (ns : List AN) : Prop := ∀ n, n ∈ ns → 0 ≤ n.size ∧ n.size ≤ 61
theorem sizeAt_bd {ns : List AN} (h : Sized ns) (i : Nat) : 0 ≤ sizeAt ns i ∧ sizeAt ns i ≤ 61 := by
  unfold sizeAt
  cases hi : ns[i]? with
  | none => simp
  | some n => simpa using h n (List.mem_of_getElem? hi)
theorem sized_add {n : AN} {st : PS} (h : Sized st.2) (hn : 0 ≤ n.size) : Sized (addS n st).2.2 := by
  intro m hm
  simp only [addS, List.mem_append, List.mem_singleton] at hm
  rcases hm with hm | rfl
  · exact h m hm
  · simp only [capN]; split <;> omega

/- PROGRESS: a scanning step goes on, and never back. -/
theorem next_ge {t : ByteArray} {s : RS} (h : Fits t s) : s.1 ≤ (nextS t s).2.1 := by
  unfold nextS; split
  · exact h
  · exact Nat.le_succ _
theorem next_gt {t : ByteArray} {s : RS} (h : s.1 < t.size) : s.1 < (nextS t s).2.1 := by
  unfold nextS; split
  · exact h
  · exact Nat.lt_succ_self _
theorem take_ge {t : ByteArray} {s : RS} {c : Int} : s.1 ≤ (takeS t c s).2.1 := by
  unfold takeS; split
  · exact Nat.le_succ _
  · exact Nat.le_refl _
theorem take_gt {t : ByteArray} {s : RS} {c : Int} (h : (takeS t c s).1 = true) : s.1 < (takeS t c s).2.1 := by
  unfold takeS at *; split
  · exact Nat.lt_succ_self _
  · rename_i hc; rw [if_neg hc] at h; cases h
theorem mem_ge {t : ByteArray} {s : RS} (h : Fits t s) : s.1 ≤ (memS t s).2.1 := by
  unfold memS; split
  · exact Nat.le_trans (next_ge h) (next_ge (fits_next h))
  · exact next_ge h
theorem mem_gt {t : ByteArray} {s : RS} (h : s.1 < t.size) : s.1 < (memS t s).2.1 := by
  have hf : Fits t s := Nat.le_of_lt h
  unfold memS; split
  · exact Nat.lt_of_lt_of_le (next_gt h) (next_ge (fits_next hf))
  · exact next_gt h
theorem high_gt {t : ByteArray} {s : RS} (h : s.1 < t.size) : s.1 < (highS t s).2.1 := by
  have h1 := mem_gt h
  unfold highS; split
  · rename_i hq
    have := mem_ge (t := t) (s := ((memS t s).2.1 + 1, (memS t s).2.2)) (fits_sec hq)
    simp only [] at this
    omega
  · exact h1
theorem item_gt {t : ByteArray} {s : RS} (h : s.1 < t.size) : s.1 < (itemS t s).2.1 := by
  unfold itemS; simp only []; split
  · exact h
  · exact high_gt h
theorem itemQ_lt {t : ByteArray} {s : RS} (h : itemQ t s = true) : s.1 < t.size := by
  simp only [itemQ, Bool.and_eq_true, bne_iff_ne] at h
  have := h.1
  rw [Ne, pk_none] at this
  omega
theorem dig_ge {t : ByteArray} {s : RS} (h : Fits t s) : s.1 ≤ (digS t s).2.1 := by
  unfold digS; split
  · exact h
  · exact next_ge h
theorem up_ge {t : ByteArray} {s : RS} (h : Fits t s) : s.1 ≤ (upS t s).2.1 := by
  unfold upS; split
  · exact Nat.le_refl _
  · exact dig_ge h
theorem most_ge {t : ByteArray} {s : RS} (h : Fits t s) : s.1 ≤ (mostS t s).2.1 := by
  have h1 := dig_ge h
  have h2 := take_ge (t := t) (c := 44) (s := (digS t s).2)
  unfold mostS; split
  · exact Nat.le_trans h1 (Nat.le_trans h2 (up_ge (fits_take (by omega) (fits_dig h))))
  · exact Nat.le_trans h1 h2
theorem braces_ge {t : ByteArray} {s : RS} (h : Fits t s) : s.1 ≤ (bracesS t s).2.1 := by
  unfold bracesS; split
  · exact h
  · exact Nat.le_trans (most_ge h) take_ge
theorem repeat_gt {t : ByteArray} {s : RS} (h : s.1 < t.size) : s.1 < (repeatS t s).2.1 := by
  have h1 := next_gt h
  have h2 := braces_ge (t := t) (s := (nextS t s).2) (fits_next (Nat.le_of_lt h))
  unfold repeatS
  repeat' split
  all_goals first | exact h1 | exact Nat.lt_of_lt_of_le h1 h2
theorem repS_lt {t : ByteArray} {s : RS} (h : repS t s = true) : s.1 < t.size := by
  refine pk_some ?_
  simp only [repS, Bool.or_eq_true, beq_iff_eq] at h
  omega
theorem endS_lt {t : ByteArray} {s : RS} (h : endS t s = false) : s.1 < t.size := by
  simp only [endS, Bool.or_eq_false_iff, beq_eq_false_iff_ne] at h
  have := h.1.1
  rw [Ne, pk_none] at this
  omega

/- THE ITEMS OF A LIST. -/
def itemsF (t : ByteArray) : Nat → RS → List (Int × Int) → List (Int × Int) × RS
  | 0, s, acc => (acc, s)
  | f + 1, s, acc => if itemQ t s = true then itemsF t f (itemS t s).2 (acc ++ [(itemS t s).1]) else (acc, s)
theorem itemsF_more (t : ByteArray) : ∀ (f g : Nat) (s : RS) (acc : List (Int × Int)), t.size - s.1 ≤ f → t.size - s.1 ≤ g → itemsF t f s acc = itemsF t g s acc
  | 0, 0, _, _, _, _ => rfl
  | 0, g + 1, s, acc, h, _ => by
    rw [itemsF, itemsF, if_neg]
    intro hq; have := itemQ_lt hq; omega
  | f + 1, 0, s, acc, _, h => by
    rw [itemsF, itemsF, if_neg]
    intro hq; have := itemQ_lt hq; omega
  | f + 1, g + 1, s, acc, h1, h2 => by
    rw [itemsF, itemsF]
    split
    · rename_i hq
      have := item_gt (itemQ_lt hq)
      have := itemQ_lt hq
      exact itemsF_more t f g _ _ (by omega) (by omega)
    · rfl
def itemsS (t : ByteArray) (s : RS) (acc : List (Int × Int)) : List (Int × Int) × RS := itemsF t (t.size - s.1) s acc
theorem itemsS_on {t : ByteArray} {s : RS} {acc : List (Int × Int)} (h : itemQ t s = true) : itemsS t s acc = itemsS t (itemS t s).2 (acc ++ [(itemS t s).1]) := by
  have h1 := itemQ_lt h
  have h2 := item_gt h1
  unfold itemsS
  obtain ⟨f, hf⟩ : ∃ f, t.size - s.1 = f + 1 := ⟨t.size - s.1 - 1, by omega⟩
  rw [hf, itemsF, if_pos h]
  exact itemsF_more t _ _ _ _ (by omega) (Nat.le_refl _)
theorem itemsS_off {t : ByteArray} {s : RS} {acc : List (Int × Int)} (h : itemQ t s = false) : itemsS t s acc = (acc, s) := by
  unfold itemsS
  cases t.size - s.1 with
  | zero => rfl
  | succ f => rw [itemsF, if_neg (by rw [h]; decide)]

theorem itemsF_ge (t : ByteArray) : ∀ (f : Nat) (s : RS) (acc : List (Int × Int)), s.1 ≤ (itemsF t f s acc).2.1
  | 0, s, _ => Nat.le_refl _
  | f + 1, s, acc => by
    rw [itemsF]
    split
    · rename_i hq; exact Nat.le_trans (Nat.le_of_lt (item_gt (itemQ_lt hq))) (itemsF_ge t f _ _)
    · exact Nat.le_refl _
theorem itemsS_ge {t : ByteArray} {s : RS} {acc : List (Int × Int)} (h : Fits t s) : s.1 ≤ (itemsS t s acc).2.1 := itemsF_ge t _ s acc

/-- A list, behind its [. -/
def listS (t : ByteArray) (st : PS) : Nat × PS :=
  let a := takeS t 94 st.1
  let i := itemsS t a.2 []
  let c := takeS t 93 i.2
  addS { kind := 1, its := i.1, neg := a.1, size := 1 } (if c.1 = false ∨ i.1.length = 0 then failS t else c.2, st.2)

end Go.Proofs.Ytgifhgnccmnbiaa

set_option linter.unusedVariables false
set_option linter.unusedSimpArgs false
namespace Go.Proofs.Ytgifhgnccmnbiaa

/-- An atom that is neither a group nor a list, behind its first byte c. -/
def plainS (t : ByteArray) (c : Int) (st : PS) : Nat × PS :=
  if c = 46 then bytesS 0 255 st
  else if c = 94 then addS { kind := 2, size := 1 } st
  else if c = 36 then addS { kind := 3, size := 1 } st
  else if c = 92 then bytesS (nextS t st.1).1 (nextS t st.1).1 ((nextS t st.1).2, st.2)
  else if c = 41 ∨ c = 124 ∨ c = 42 ∨ c = 43 ∨ c = 63 ∨ c = 123 then bytesS c c (failS t, st.2)
  else bytesS c c st
/-- Behind a group's pattern. -/
def closeS (t : ByteArray) (r : Nat × PS) : Nat × PS := (r.1, (if (takeS t 41 r.2.1).1 = true then (takeS t 41 r.2.1).2 else failS t, r.2.2))

/-- tag 0: a pattern; 1: a branch; 2: a piece; 3: an atom; 4, 5, 6: what may follow a branch in its pattern, a piece in its branch, an atom in its piece. -/
def goS (t : ByteArray) : Nat → Nat → Nat → PS → Nat × PS
  | 0, _, cur, st => (cur, st)
  | f + 1, tag, cur, st =>
    if tag = 0 then goS t f 4 (goS t f 1 0 st).1 (goS t f 1 0 st).2
    else if tag = 1 then
      if endS t st.1 = true then addS { kind := 0, size := 1 } st
      else goS t f 5 (goS t f 2 0 st).1 (goS t f 2 0 st).2
    else if tag = 2 then goS t f 6 (goS t f 3 0 st).1 (goS t f 3 0 st).2
    else if tag = 3 then
      if (nextS t st.1).1 = 40 then closeS t (goS t f 0 0 ((nextS t st.1).2, st.2))
      else if (nextS t st.1).1 = 91 then listS t ((nextS t st.1).2, st.2)
      else plainS t (nextS t st.1).1 ((nextS t st.1).2, st.2)
    else if tag = 4 then
      if (takeS t 124 st.1).1 = true then
        goS t f 4 (joinS 5 cur (goS t f 1 0 ((takeS t 124 st.1).2, st.2)).1 (goS t f 1 0 ((takeS t 124 st.1).2, st.2)).2).1 (joinS 5 cur (goS t f 1 0 ((takeS t 124 st.1).2, st.2)).1 (goS t f 1 0 ((takeS t 124 st.1).2, st.2)).2).2
      else (cur, st)
    else if tag = 5 then
      if endS t st.1 = true then (cur, st)
      else goS t f 5 (joinS 4 cur (goS t f 2 0 st).1 (goS t f 2 0 st).2).1 (joinS 4 cur (goS t f 2 0 st).1 (goS t f 2 0 st).2).2
    else
      if repS t st.1 = true then goS t f 6 (againS cur (repeatS t st.1).1 ((repeatS t st.1).2, st.2)).1 (againS cur (repeatS t st.1).1 ((repeatS t st.1).2, st.2)).2
      else (cur, st)

def Ev (t : ByteArray) (tag cur : Nat) (st : PS) (r : Nat × PS) : Prop := ∃ f0, ∀ f, f0 ≤ f → goS t f tag cur st = r

theorem ev_max {p q : Nat → Prop} (hp : ∃ a, ∀ f, a ≤ f → p f) (hq : ∃ a, ∀ f, a ≤ f → q f) : ∃ a, ∀ f, a ≤ f → p f ∧ q f := by
  obtain ⟨a, ha⟩ := hp
  obtain ⟨c, hc⟩ := hq
  exact ⟨a + c, fun f hf => ⟨ha f (by omega), hc f (by omega)⟩⟩
theorem ev_succ {p : Nat → Prop} (hp : ∃ a, ∀ f, a ≤ f → p (f + 1)) : ∃ a, ∀ f, a ≤ f → p f := by
  obtain ⟨a, ha⟩ := hp
  refine ⟨a + 1, fun f hf => ?_⟩
  obtain ⟨g, rfl⟩ : ∃ g, f = g + 1 := ⟨f - 1, by omega⟩
  exact ha g (by omega)

section
variable {t : ByteArray} {cur : Nat} {st : PS} {r r1 : Nat × PS}
theorem Ev.pattern (h1 : Ev t 1 0 st r1) (h2 : Ev t 4 r1.1 r1.2 r) : Ev t 0 0 st r :=
  ev_succ (by obtain ⟨a, h⟩ := ev_max h1 h2; exact ⟨a, fun f hf => by obtain ⟨x, y⟩ := h f hf; rw [goS, if_pos rfl, x, y]⟩)
theorem Ev.empty (he : endS t st.1 = true) : Ev t 1 0 st (addS { kind := 0, size := 1 } st) :=
  ev_succ ⟨0, fun f _ => by rw [goS, if_neg (by decide), if_pos rfl, if_pos he]⟩
theorem Ev.branch (he : endS t st.1 = false) (h1 : Ev t 2 0 st r1) (h2 : Ev t 5 r1.1 r1.2 r) : Ev t 1 0 st r :=
  ev_succ (by obtain ⟨a, h⟩ := ev_max h1 h2; exact ⟨a, fun f hf => by obtain ⟨x, y⟩ := h f hf; rw [goS, if_neg (by decide), if_pos rfl, if_neg (by rw [he]; decide), x, y]⟩)
theorem Ev.piece (h1 : Ev t 3 0 st r1) (h2 : Ev t 6 r1.1 r1.2 r) : Ev t 2 0 st r :=
  ev_succ (by obtain ⟨a, h⟩ := ev_max h1 h2; exact ⟨a, fun f hf => by obtain ⟨x, y⟩ := h f hf; rw [goS, if_neg (by decide), if_neg (by decide), if_pos rfl, x, y]⟩)
theorem Ev.group (he : (nextS t st.1).1 = 40) (h1 : Ev t 0 0 ((nextS t st.1).2, st.2) r1) : Ev t 3 0 st (closeS t r1) :=
  ev_succ (by obtain ⟨a, h⟩ := h1; exact ⟨a, fun f hf => by rw [goS, if_neg (by decide), if_neg (by decide), if_neg (by decide), if_pos rfl, if_pos he, h f hf]⟩)
theorem Ev.list (he : (nextS t st.1).1 = 91) : Ev t 3 0 st (listS t ((nextS t st.1).2, st.2)) :=
  ev_succ ⟨0, fun f _ => by rw [goS, if_neg (by decide), if_neg (by decide), if_neg (by decide), if_pos rfl, if_neg (by rw [he]; decide), if_pos he]⟩
theorem Ev.plain (h1 : (nextS t st.1).1 ≠ 40) (h2 : (nextS t st.1).1 ≠ 91) : Ev t 3 0 st (plainS t (nextS t st.1).1 ((nextS t st.1).2, st.2)) :=
  ev_succ ⟨0, fun f _ => by rw [goS, if_neg (by decide), if_neg (by decide), if_neg (by decide), if_pos rfl, if_neg h1, if_neg h2]⟩
theorem Ev.or (he : (takeS t 124 st.1).1 = true) (h1 : Ev t 1 0 ((takeS t 124 st.1).2, st.2) r1) (h2 : Ev t 4 (joinS 5 cur r1.1 r1.2).1 (joinS 5 cur r1.1 r1.2).2 r) : Ev t 4 cur st r :=
  ev_succ (by obtain ⟨a, h⟩ := ev_max h1 h2; exact ⟨a, fun f hf => by
    obtain ⟨x, y⟩ := h f hf
    rw [goS, if_neg (by decide), if_neg (by decide), if_neg (by decide), if_neg (by decide), if_pos rfl, if_pos he, x, y]⟩)
theorem Ev.orEnd (he : (takeS t 124 st.1).1 = false) : Ev t 4 cur st (cur, st) :=
  ev_succ ⟨0, fun f _ => by rw [goS, if_neg (by decide), if_neg (by decide), if_neg (by decide), if_neg (by decide), if_pos rfl, if_neg (by rw [he]; decide)]⟩
theorem Ev.and (he : endS t st.1 = false) (h1 : Ev t 2 0 st r1) (h2 : Ev t 5 (joinS 4 cur r1.1 r1.2).1 (joinS 4 cur r1.1 r1.2).2 r) : Ev t 5 cur st r :=
  ev_succ (by obtain ⟨a, h⟩ := ev_max h1 h2; exact ⟨a, fun f hf => by
    obtain ⟨x, y⟩ := h f hf
    rw [goS, if_neg (by decide), if_neg (by decide), if_neg (by decide), if_neg (by decide), if_neg (by decide), if_pos rfl, if_neg (by rw [he]; decide), x, y]⟩)
theorem Ev.andEnd (he : endS t st.1 = true) : Ev t 5 cur st (cur, st) :=
  ev_succ ⟨0, fun f _ => by rw [goS, if_neg (by decide), if_neg (by decide), if_neg (by decide), if_neg (by decide), if_neg (by decide), if_pos rfl, if_pos he]⟩
theorem Ev.rep (he : repS t st.1 = true) (h2 : Ev t 6 (againS cur (repeatS t st.1).1 ((repeatS t st.1).2, st.2)).1 (againS cur (repeatS t st.1).1 ((repeatS t st.1).2, st.2)).2 r) : Ev t 6 cur st r :=
  ev_succ (by obtain ⟨a, h⟩ := h2; exact ⟨a, fun f hf => by
    rw [goS, if_neg (by decide), if_neg (by decide), if_neg (by decide), if_neg (by decide), if_neg (by decide), if_neg (by decide), if_pos he, h f hf]⟩)
theorem Ev.repEnd (he : repS t st.1 = false) : Ev t 6 cur st (cur, st) :=
  ev_succ ⟨0, fun f _ => by rw [goS, if_neg (by decide), if_neg (by decide), if_neg (by decide), if_neg (by decide), if_neg (by decide), if_neg (by decide), if_neg (by rw [he]; decide)]⟩
/-- There is one outcome. -/
theorem Ev.one {tag : Nat} {r' : Nat × PS} (h : Ev t tag cur st r) (h' : Ev t tag cur st r') : r = r' := by
  obtain ⟨a, ha⟩ := h
  obtain ⟨c, hc⟩ := h'
  rw [← ha (a + c) (by omega), hc (a + c) (by omega)]
end

end Go.Proofs.Ytgifhgnccmnbiaa

set_option linter.unusedVariables false
set_option linter.unusedSimpArgs false
namespace Go.Proofs.Ytgifhgnccmnbiaa

inductive D (t : ByteArray) : Nat → Nat → PS → Nat × PS → Prop
  | pattern {cur st r1 r} : D t 1 0 st r1 → D t 4 r1.1 r1.2 r → D t 0 cur st r
  | empty {cur st} : endS t st.1 = true → D t 1 cur st (addS { kind := 0, size := 1 } st)
  | branch {cur st r1 r} : endS t st.1 = false → D t 2 0 st r1 → D t 5 r1.1 r1.2 r → D t 1 cur st r
  | piece {cur st r1 r} : D t 3 0 st r1 → D t 6 r1.1 r1.2 r → D t 2 cur st r
  | group {cur st r1} : (nextS t st.1).1 = 40 → D t 0 0 ((nextS t st.1).2, st.2) r1 → D t 3 cur st (closeS t r1)
  | list {cur st} : (nextS t st.1).1 = 91 → D t 3 cur st (listS t ((nextS t st.1).2, st.2))
  | plain {cur st} : (nextS t st.1).1 ≠ 40 → (nextS t st.1).1 ≠ 91 → D t 3 cur st (plainS t (nextS t st.1).1 ((nextS t st.1).2, st.2))
  | or {cur st r1 r} : (takeS t 124 st.1).1 = true → D t 1 0 ((takeS t 124 st.1).2, st.2) r1 → D t 4 (joinS 5 cur r1.1 r1.2).1 (joinS 5 cur r1.1 r1.2).2 r → D t 4 cur st r
  | orEnd {cur st} : (takeS t 124 st.1).1 = false → D t 4 cur st (cur, st)
  | and {cur st r1 r} : endS t st.1 = false → D t 2 0 st r1 → D t 5 (joinS 4 cur r1.1 r1.2).1 (joinS 4 cur r1.1 r1.2).2 r → D t 5 cur st r
  | andEnd {cur st} : endS t st.1 = true → D t 5 cur st (cur, st)
  | rep {cur st r} : repS t st.1 = true → D t 6 (againS cur (repeatS t st.1).1 ((repeatS t st.1).2, st.2)).1 (againS cur (repeatS t st.1).1 ((repeatS t st.1).2, st.2)).2 r → D t 6 cur st r
  | repEnd {cur st} : repS t st.1 = false → D t 6 cur st (cur, st)

/-- The tag alone decides whether the first argument counts. -/
def curOf (tag cur : Nat) : Nat := if 4 ≤ tag then cur else 0
theorem D.ev {t : ByteArray} {tag cur : Nat} {st : PS} {r : Nat × PS} (h : D t tag cur st r) : Ev t tag (curOf tag cur) st r := by
  induction h with
  | pattern _ _ a b => exact Ev.pattern a b
  | empty he => exact Ev.empty he
  | branch he _ _ a b => exact Ev.branch he a b
  | piece _ _ a b => exact Ev.piece a b
  | group he _ a => exact Ev.group he a
  | list he => exact Ev.list he
  | plain h1 h2 => exact Ev.plain h1 h2
  | or he _ _ a b => exact Ev.or he a b
  | orEnd he => exact Ev.orEnd he
  | and he _ _ a b => exact Ev.and he a b
  | andEnd he => exact Ev.andEnd he
  | rep he _ a => exact Ev.rep he a
  | repEnd he => exact Ev.repEnd he

/-- Where a step ends. -/
structure Fw (t : ByteArray) (st : PS) (r : Nat × PS) : Prop where
  fit : Fits t r.2.1
  ge : st.1.1 ≤ r.2.1.1
def Has (t : ByteArray) (tag cur : Nat) (st : PS) : Prop := ∃ r, D t tag cur st r ∧ Fw t st r
def HasGt (t : ByteArray) (tag cur : Nat) (st : PS) : Prop := ∃ r, D t tag cur st r ∧ Fw t st r ∧ st.1.1 < r.2.1.1

theorem list_fw {t : ByteArray} {st : PS} (h : Fits t st.1) : Fw t st (listS t st) := by
  have h1 := fits_take (t := t) (c := 94) (by omega) h
  have g1 := take_ge (t := t) (c := 94) (s := st.1)
  have hfI : ∀ (f : Nat) (s : RS) (acc : List (Int × Int)), Fits t s → Fits t (itemsF t f s acc).2 := by
    intro f
    induction f with
    | zero => intro s acc h; exact h
    | succ f ih =>
      intro s acc h
      rw [itemsF]
      split
      · exact ih _ _ (fits_item h)
      · exact h
  have h2 : Fits t (itemsS t (takeS t 94 st.1).2 []).2 := hfI _ _ _ h1
  have g2 := itemsS_ge (t := t) (s := (takeS t 94 st.1).2) (acc := []) h1
  have h3 := fits_take (t := t) (c := 93) (by omega) h2
  have g3 := take_ge (t := t) (c := 93) (s := (itemsS t (takeS t 94 st.1).2 []).2)
  unfold listS
  simp only [addS]
  split
  · exact ⟨fits_fail t, h⟩
  · exact ⟨h3, by simp only []; omega⟩
theorem plain_fw {t : ByteArray} {c : Int} {st : PS} (h : Fits t st.1) : Fw t st (plainS t c st) := by
  have h1 := fits_next h
  have g1 := next_ge h
  unfold plainS bytesS addS
  repeat' split
  all_goals first | exact ⟨h, Nat.le_refl _⟩ | exact ⟨h1, g1⟩ | exact ⟨fits_fail t, h⟩
theorem close_fw {t : ByteArray} {st : PS} {r : Nat × PS} (h : Fw t st r) : Fw t st (closeS t r) := by
  have h3 := fits_take (t := t) (c := 41) (by omega) h.fit
  have g3 := take_ge (t := t) (c := 41) (s := r.2.1)
  have := h.ge
  have := h.fit
  unfold closeS
  split
  · exact ⟨h3, by simp only []; omega⟩
  · exact ⟨fits_fail t, by simp only [failS]; simp only [Fits] at this; omega⟩

section
variable {t : ByteArray}
/-- The state that holds below m: all that begins with fewer than m bytes left comes to an end. -/
def Below' (t : ByteArray) (m : Nat) : Prop := ∀ st : PS, Fits t st.1 → t.size - st.1.1 < m →
  (∀ cur, Has t 0 cur st) ∧ (∀ cur, Has t 1 cur st) ∧ (st.1.1 < t.size → ∀ cur, HasGt t 2 cur st ∧ HasGt t 3 cur st) ∧ (∀ cur, Has t 4 cur st) ∧ (∀ cur, Has t 5 cur st) ∧ (∀ cur, Has t 6 cur st)

theorem below_step {m : Nat} (ih : Below' t m) : Below' t (m + 1) := by
  intro st hf hm
  have rep : ∀ cur, Has t 6 cur st := fun cur => by
    cases hr : repS t st.1 with
    | false => exact ⟨_, D.repEnd hr, hf, Nat.le_refl _⟩
    | true =>
      have hlt := repS_lt hr
      have hgt := repeat_gt hlt
      have hfr := fits_repeat hf
      obtain ⟨r, d, f⟩ := (ih (againS cur (repeatS t st.1).1 ((repeatS t st.1).2, st.2)).2 hfr (by show t.size - (repeatS t st.1).2.1 < m; omega)).2.2.2.2.2 (againS cur (repeatS t st.1).1 ((repeatS t st.1).2, st.2)).1
      exact ⟨r, D.rep hr d, f.fit, by have := f.ge; simp only [againS, addS] at this; omega⟩
  have atom : st.1.1 < t.size → ∀ cur, HasGt t 3 cur st := fun hlt cur => by
    have hgt := next_gt hlt
    have hfn := fits_next (t := t) (s := st.1) hf
    by_cases h1 : (nextS t st.1).1 = 40
    · obtain ⟨r, d, f⟩ := (ih ((nextS t st.1).2, st.2) hfn (by show t.size - (nextS t st.1).2.1 < m; omega)).1 0
      have f2 := close_fw f
      exact ⟨_, D.group h1 d, ⟨f2.fit, by have := f2.ge; simp only [] at this; omega⟩, by have := f2.ge; simp only [] at this; omega⟩
    · by_cases h2 : (nextS t st.1).1 = 91
      · have f2 := list_fw (t := t) (st := ((nextS t st.1).2, st.2)) hfn
        exact ⟨_, D.list h2, ⟨f2.fit, by have := f2.ge; simp only [] at this; omega⟩, by have := f2.ge; simp only [] at this; omega⟩
      · have f2 := plain_fw (t := t) (c := (nextS t st.1).1) (st := ((nextS t st.1).2, st.2)) hfn
        exact ⟨_, D.plain h1 h2, ⟨f2.fit, by have := f2.ge; simp only [] at this; omega⟩, by have := f2.ge; simp only [] at this; omega⟩
  have piece : st.1.1 < t.size → ∀ cur, HasGt t 2 cur st := fun hlt cur => by
    obtain ⟨r1, d1, f1, g1⟩ := atom hlt 0
    obtain ⟨r, d, f⟩ := (ih r1.2 f1.fit (by omega)).2.2.2.2.2 r1.1
    exact ⟨r, D.piece d1 d, ⟨f.fit, Nat.le_trans f1.ge f.ge⟩, by have := f.ge; omega⟩
  have more : ∀ cur, Has t 5 cur st := fun cur => by
    cases he : endS t st.1 with
    | true => exact ⟨_, D.andEnd he, hf, Nat.le_refl _⟩
    | false =>
      have hlt := endS_lt he
      obtain ⟨r1, d1, f1, g1⟩ := piece hlt 0
      obtain ⟨r, d, f⟩ := (ih (joinS 4 cur r1.1 r1.2).2 f1.fit (by show t.size - r1.2.1.1 < m; omega)).2.2.2.2.1 (joinS 4 cur r1.1 r1.2).1
      exact ⟨r, D.and he d1 d, ⟨f.fit, Nat.le_trans f1.ge f.ge⟩⟩
  have branch : ∀ cur, Has t 1 cur st := fun cur => by
    cases he : endS t st.1 with
    | true => exact ⟨_, D.empty he, hf, Nat.le_refl _⟩
    | false =>
      have hlt := endS_lt he
      obtain ⟨r1, d1, f1, g1⟩ := piece hlt 0
      obtain ⟨r, d, f⟩ := (ih r1.2 f1.fit (by omega)).2.2.2.2.1 r1.1
      exact ⟨r, D.branch he d1 d, ⟨f.fit, Nat.le_trans f1.ge f.ge⟩⟩
  have alts : ∀ cur, Has t 4 cur st := fun cur => by
    cases he : (takeS t 124 st.1).1 with
    | false => exact ⟨_, D.orEnd he, hf, Nat.le_refl _⟩
    | true =>
      have hgt := take_gt he
      have hft := fits_take (t := t) (c := 124) (by omega) hf
      obtain ⟨r1, d1, f1⟩ := (ih ((takeS t 124 st.1).2, st.2) hft (by show t.size - (takeS t 124 st.1).2.1 < m; have : (takeS t 124 st.1).2.1 ≤ t.size := hft; omega)).2.1 0
      have g1 := f1.ge
      simp only [] at g1
      obtain ⟨r, d, f⟩ := (ih (joinS 5 cur r1.1 r1.2).2 f1.fit (by show t.size - r1.2.1.1 < m; have : r1.2.1.1 ≤ t.size := f1.fit; have : (takeS t 124 st.1).2.1 ≤ t.size := hft; omega)).2.2.2.1 (joinS 5 cur r1.1 r1.2).1
      exact ⟨r, D.or he d1 d, ⟨f.fit, by have := f.ge; simp only [joinS, addS] at this; omega⟩⟩
  refine ⟨fun cur => ?_, branch, fun h cur => ⟨piece h cur, atom h cur⟩, alts, more, rep⟩
  obtain ⟨r1, d1, f1⟩ := branch 0
  by_cases hsame : r1.2.1.1 = st.1.1
  · -- nothing read yet: what follows has as many bytes left
    have alts1 : Has t 4 r1.1 r1.2 := by
      cases he : (takeS t 124 r1.2.1).1 with
      | false => exact ⟨_, D.orEnd he, f1.fit, Nat.le_refl _⟩
      | true =>
        have hgt := take_gt he
        have hft := fits_take (t := t) (c := 124) (by omega) f1.fit
        obtain ⟨r2, d2, f2⟩ := (ih ((takeS t 124 r1.2.1).2, r1.2.2) hft (by show t.size - (takeS t 124 r1.2.1).2.1 < m; have : (takeS t 124 r1.2.1).2.1 ≤ t.size := hft; omega)).2.1 0
        have g2 := f2.ge
        simp only [] at g2
        obtain ⟨r, d, f⟩ := (ih (joinS 5 r1.1 r2.1 r2.2).2 f2.fit (by show t.size - r2.2.1.1 < m; have : r2.2.1.1 ≤ t.size := f2.fit; have : (takeS t 124 r1.2.1).2.1 ≤ t.size := hft; omega)).2.2.2.1 (joinS 5 r1.1 r2.1 r2.2).1
        exact ⟨r, D.or he d2 d, ⟨f.fit, by have := f.ge; simp only [joinS, addS] at this; omega⟩⟩
    obtain ⟨r, d, f⟩ := alts1
    exact ⟨r, D.pattern d1 d, f.fit, Nat.le_trans f1.ge f.ge⟩
  · have hlt : st.1.1 < r1.2.1.1 := by have := f1.ge; omega
    obtain ⟨r, d, f⟩ := (ih r1.2 f1.fit (by have : r1.2.1.1 ≤ t.size := f1.fit; omega)).2.2.2.1 r1.1
    exact ⟨r, D.pattern d1 d, f.fit, Nat.le_trans f1.ge f.ge⟩
theorem below_all : ∀ m, Below' t m
  | 0 => fun _ _ h => by omega
  | m + 1 => below_step (below_all m)
end

/-- THE READER's OUTCOME HAS A DERIVATION. -/
theorem Ev.deriv {t : ByteArray} {st : PS} {r : Nat × PS} (hf : Fits t st.1) (h : Ev t 0 0 st r) : D t 0 0 st r := by
  obtain ⟨r', d, _⟩ := (below_all (t := t) (t.size - st.1.1 + 1) st hf (by omega)).1 0
  have := Ev.one h d.ev
  subst this
  exact d

end Go.Proofs.Ytgifhgnccmnbiaa

set_option linter.unusedVariables false
set_option linter.unusedSimpArgs false
namespace Go.Proofs.Ytgifhgnccmnbiaa

/-- What a node at place q is. -/
def NodeOk (ns : List AN) (q : Nat) (n : AN) : Prop :=
  1 ≤ n.size ∧ n.size ≤ 61 ∧ n.its.length ≤ 1000 ∧
  (((n.kind = 0 ∨ n.kind = 1 ∨ n.kind = 2 ∨ n.kind = 3) ∧ n.left = 0 ∧ n.right = 0 ∧ n.size = 1) ∨
   ((n.kind = 4 ∨ n.kind = 5) ∧ ∃ l r : Nat, l < q ∧ r < q ∧ n.left = (l : Int) ∧ n.right = (r : Int) ∧ n.size = (if 61 < sizeAt ns l + sizeAt ns r then 61 else sizeAt ns l + sizeAt ns r)) ∨
   (n.kind = 6 ∧ ∃ l : Nat, l < q ∧ n.left = (l : Int) ∧ n.right = 0 ∧ 0 ≤ n.least ∧ n.least ≤ 9 ∧ -1 ≤ n.most ∧ n.most ≤ 9 ∧ (n.most = -1 ∨ n.least ≤ n.most) ∧ n.size = (if 61 < sizeAt ns l * timesS n.least n.most then 61 else sizeAt ns l * timesS n.least n.most)))
def NodesOk (ns : List AN) : Prop := ∀ q n, ns[q]? = some n → NodeOk ns q n

theorem sizeN_app {ns more : List AN} {i : Nat} (h : i < ns.length) : sizeAt (ns ++ more) i = sizeAt ns i := by
  unfold sizeAt; rw [List.getElem?_append_left h]
theorem sizeN_new (ns : List AN) (n : AN) : sizeAt (ns ++ [n]) ns.length = n.size := by
  unfold sizeAt; simp
theorem NodeOk.app {ns more : List AN} {q : Nat} {n : AN} (h : NodeOk ns q n) (hq : q ≤ ns.length) : NodeOk (ns ++ more) q n := by
  obtain ⟨h1, h2, h3, h4⟩ := h
  refine ⟨h1, h2, h3, ?_⟩
  rcases h4 with h4 | ⟨hk, l, r, a, b, c, d, e⟩ | ⟨hk, l, a, b, c⟩
  · exact Or.inl h4
  · exact Or.inr (Or.inl ⟨hk, l, r, a, b, c, d, by rw [sizeN_app (by omega), sizeN_app (by omega)]; exact e⟩)
  · exact Or.inr (Or.inr ⟨hk, l, a, b, by rw [sizeN_app (by omega)]; exact c⟩)
theorem NodesOk.snoc {ns : List AN} {n : AN} (h : NodesOk ns) (hn : NodeOk ns ns.length n) : NodesOk (ns ++ [n]) := by
  intro q m hm
  by_cases hq : q < ns.length
  · rw [List.getElem?_append_left hq] at hm
    exact (h q m hm).app (by omega)
  · have hl := (List.getElem?_eq_some_iff.1 hm).1
    simp at hl
    obtain rfl : q = ns.length := by omega
    rw [List.getElem?_append_right (Nat.le_refl _), Nat.sub_self] at hm
    simp at hm
    subst hm
    exact hn.app (Nat.le_refl _)
theorem NodesOk.size {ns : List AN} (h : NodesOk ns) {i : Nat} (hi : i < ns.length) : 1 ≤ sizeAt ns i ∧ sizeAt ns i ≤ 61 := by
  unfold sizeAt
  obtain ⟨n, hn⟩ : ∃ n, ns[i]? = some n := ⟨_, List.getElem?_eq_getElem hi⟩
  rw [hn]
  exact ⟨(h i n hn).1, (h i n hn).2.1⟩

/-- What a step makes of the list. -/
structure Gr (tag cur : Nat) (st : PS) (r : Nat × PS) : Prop where
  ok : NodesOk r.2.2
  app : ∃ more, r.2.2 = st.2 ++ more
  top : r.1 + 1 = r.2.2.length
  big : ∀ i, st.2.length ≤ i → i < r.2.2.length → sizeAt r.2.2 i ≤ sizeAt r.2.2 r.1
  cur : 4 ≤ tag → sizeAt st.2 cur ≤ sizeAt r.2.2 r.1

theorem leaf_gr {tag cur : Nat} {s0 : RS} {s : RS} {ns : List AN} (n : AN) (hs : n.size = 1) (h : NodesOk ns) (hk : n.kind = 0 ∨ n.kind = 1 ∨ n.kind = 2 ∨ n.kind = 3) (h1 : n.left = 0) (h2 : n.right = 0) (h3 : n.its.length ≤ 1000) (ht : ¬ 4 ≤ tag) :
    Gr tag cur (s0, ns) (addS n (s, ns)) := by
  have hc : capN n = n := by unfold capN; rw [hs]; rw [if_neg (by omega)]; rw [← hs]
  refine ⟨?_, ⟨[capN n], rfl⟩, by simp [addS], fun i hi hl => ?_, fun hc => absurd hc ht⟩
  · show NodesOk (ns ++ [capN n])
    rw [hc]
    exact h.snoc ⟨by omega, by omega, h3, Or.inl ⟨hk, h1, h2, hs⟩⟩
  · simp [addS] at hl
    obtain rfl : i = ns.length := by simp at hi; omega
    exact Int.le_refl _

theorem cap_le {a b : Int} (h : a ≤ b) (h61 : a ≤ 61) : a ≤ (if 61 < b then 61 else b) := by split <;> omega

/-- A node out of others, laid behind the list. -/
theorem join_ok {kind : Int} {cur j : Nat} {s : RS} {ns : List AN} (hk : kind = 4 ∨ kind = 5) (h : NodesOk ns) (hc : cur < ns.length) (hj : j < ns.length) :
    NodesOk (joinS kind cur j (s, ns)).2.2 ∧ (joinS kind cur j (s, ns)).1 + 1 = (joinS kind cur j (s, ns)).2.2.length ∧
    sizeAt ns cur ≤ sizeAt (joinS kind cur j (s, ns)).2.2 (joinS kind cur j (s, ns)).1 ∧ sizeAt ns j ≤ sizeAt (joinS kind cur j (s, ns)).2.2 (joinS kind cur j (s, ns)).1 := by
  have h1 := h.size hc
  have h2 := h.size hj
  have e : sizeAt (joinS kind cur j (s, ns)).2.2 (joinS kind cur j (s, ns)).1 = (if 61 < sizeAt ns cur + sizeAt ns j then 61 else sizeAt ns cur + sizeAt ns j) := by
    simp only [joinS, addS]; rw [sizeN_new]; rfl
  refine ⟨h.snoc ⟨?_, ?_, by show (0 : Nat) ≤ 1000; omega, Or.inr (Or.inl ⟨hk, cur, j, hc, hj, rfl, rfl, rfl⟩)⟩, by simp [joinS, addS], ?_, ?_⟩
  · simp only [capN]; split <;> omega
  · simp only [capN]; split <;> omega
  · rw [e]; exact cap_le (by omega) (by omega)
  · rw [e]; exact cap_le (by omega) (by omega)

theorem repeat_le (t : ByteArray) (s : RS) : (repeatS t s).1.2 = -1 ∨ (repeatS t s).1.1 ≤ (repeatS t s).1.2 := by
  unfold repeatS
  repeat' split
  · exact Or.inl rfl
  · exact Or.inl rfl
  · right; simp
  · unfold bracesS
    split
    · right; simp
    · rename_i h
      simp only []
      by_cases hm : (mostS t (nextS t s).2).1 = -1
      · exact Or.inl hm
      · right
        have : ¬ ((mostS t (nextS t s).2).1 ≠ -1 ∧ (mostS t (nextS t s).2).1 < (digS t (nextS t s).2).1) := fun hc => h (Or.inr hc)
        omega

theorem times_pos (a b : Int) : 1 ≤ timesS a b := by
  unfold timesS; repeat' split
  all_goals omega
theorem mul_ge {a b : Int} (ha : 1 ≤ a) (hb : 1 ≤ b) : a ≤ a * b := by
  have := Int.mul_le_mul_of_nonneg_left hb (by omega : (0 : Int) ≤ a)
  omega
theorem again_ok {cur : Nat} {s : RS} {ns : List AN} {lm : Int × Int} (h : NodesOk ns) (hc : cur < ns.length) (hb : 0 ≤ lm.1 ∧ lm.1 ≤ 9 ∧ -1 ≤ lm.2 ∧ lm.2 ≤ 9) (hle : lm.2 = -1 ∨ lm.1 ≤ lm.2) :
    NodesOk (againS cur lm (s, ns)).2.2 ∧ (againS cur lm (s, ns)).1 + 1 = (againS cur lm (s, ns)).2.2.length ∧
    sizeAt ns cur ≤ sizeAt (againS cur lm (s, ns)).2.2 (againS cur lm (s, ns)).1 := by
  have h1 := h.size hc
  have hm := mul_ge h1.1 (times_pos lm.1 lm.2)
  have e : sizeAt (againS cur lm (s, ns)).2.2 (againS cur lm (s, ns)).1 = (if 61 < sizeAt ns cur * timesS lm.1 lm.2 then 61 else sizeAt ns cur * timesS lm.1 lm.2) := by
    simp only [againS, addS]; rw [sizeN_new]; rfl
  refine ⟨h.snoc ⟨?_, ?_, by show (0 : Nat) ≤ 1000; omega, Or.inr (Or.inr ⟨rfl, cur, hc, rfl, rfl, hb.1, hb.2.1, hb.2.2.1, hb.2.2.2, hle, rfl⟩)⟩, by simp [againS, addS], ?_⟩
  · simp only [capN]; split <;> omega
  · simp only [capN]; split <;> omega
  · rw [e]; exact cap_le hm (by omega)

theorem items_len (t : ByteArray) : ∀ (f : Nat) (s : RS) (acc : List (Int × Int)), (itemsF t f s acc).1.length ≤ acc.length + f
  | 0, s, acc => Nat.le_refl _
  | f + 1, s, acc => by
    rw [itemsF]
    split
    · have := items_len t f (itemS t s).2 (acc ++ [(itemS t s).1])
      simp at this
      omega
    · exact Nat.le_add_right _ _

theorem Gr.refl {tag cur : Nat} {st : PS} (h : NodesOk st.2) (hc : cur + 1 = st.2.length) : Gr tag cur st (cur, st) :=
  ⟨h, ⟨[], by simp⟩, hc, fun i h1 h2 => by simp only [] at h2; omega, fun _ => Int.le_refl _⟩
theorem Gr.comp {ta ca tb cb t c : Nat} {st stb : PS} {r1 r : Nat × PS} {extra : List AN} (ga : Gr ta ca st r1) (gb : Gr tb cb stb r) (he : stb.2 = r1.2.2 ++ extra)
    (hx : ∀ i, r1.2.2.length ≤ i → i < stb.2.length → sizeAt stb.2 i ≤ sizeAt stb.2 cb) (hc : sizeAt r1.2.2 r1.1 ≤ sizeAt stb.2 cb) (htb : 4 ≤ tb) (hcur : 4 ≤ t → sizeAt st.2 c ≤ sizeAt stb.2 cb) : Gr t c st r := by
  obtain ⟨m1, e1⟩ := ga.app
  obtain ⟨m2, e2⟩ := gb.app
  have hcb := gb.cur htb
  refine ⟨gb.ok, ⟨m1 ++ extra ++ m2, by rw [e2, he, e1]; simp⟩, gb.top, fun i h1 h2 => ?_, fun h => Int.le_trans (hcur h) hcb⟩
  by_cases hi : i < r1.2.2.length
  · have h3 := ga.big i h1 hi
    have h4 : sizeAt r.2.2 i = sizeAt r1.2.2 i := by rw [e2, he, List.append_assoc, sizeN_app hi]
    rw [h4]
    exact Int.le_trans h3 (Int.le_trans hc hcb)
  · by_cases hj : i < stb.2.length
    · have h3 := hx i (by omega) hj
      have h4 : sizeAt r.2.2 i = sizeAt stb.2 i := by rw [e2, sizeN_app hj]
      rw [h4]
      exact Int.le_trans h3 hcb
    · exact gb.big i (by omega) h2

/-- WHAT THE READER MAKES OF THE LIST. -/
theorem D.gr {t : ByteArray} (ht : t.size ≤ 1000) {tag cur : Nat} {st : PS} {r : Nat × PS} (h : D t tag cur st r) : NodesOk st.2 → (4 ≤ tag → cur + 1 = st.2.length) → Gr tag cur st r := by
  induction h with
  | pattern _ _ a b =>
    intro hn _
    have g1 := a hn (fun h => by omega)
    have g2 := b g1.ok (fun _ => g1.top)
    exact g1.comp (extra := []) g2 (by simp) (fun i h1 h2 => by omega) (Int.le_refl _) (by omega) (fun h => by omega)
  | empty he => intro hn _; exact leaf_gr _ rfl hn (Or.inl rfl) rfl rfl (Nat.zero_le _) (by omega)
  | branch he _ _ a b =>
    intro hn _
    have g1 := a hn (fun h => by omega)
    have g2 := b g1.ok (fun _ => g1.top)
    exact g1.comp (extra := []) g2 (by simp) (fun i h1 h2 => by omega) (Int.le_refl _) (by omega) (fun h => by omega)
  | piece _ _ a b =>
    intro hn _
    have g1 := a hn (fun h => by omega)
    have g2 := b g1.ok (fun _ => g1.top)
    exact g1.comp (extra := []) g2 (by simp) (fun i h1 h2 => by omega) (Int.le_refl _) (by omega) (fun h => by omega)
  | group he _ a =>
    intro hn _
    have g1 := a hn (fun h => by omega)
    exact ⟨g1.ok, g1.app, g1.top, g1.big, fun h => by omega⟩
  | @list cur st he =>
    intro hn _
    refine leaf_gr _ rfl hn (Or.inr (Or.inl rfl)) rfl rfl ?_ (by omega)
    have := items_len t (t.size - (takeS t 94 (nextS t st.1).2).2.1) (takeS t 94 (nextS t st.1).2).2 []
    show (itemsS t (takeS t 94 (nextS t st.1).2).2 []).1.length ≤ 1000
    unfold itemsS
    simp only [List.length_nil] at this
    omega
  | plain h1 h2 =>
    intro hn _
    unfold plainS bytesS
    repeat' split
    all_goals first
      | exact leaf_gr _ rfl hn (Or.inr (Or.inl rfl)) rfl rfl (by show (1 : Nat) ≤ 1000; omega) (by omega)
      | exact leaf_gr _ rfl hn (Or.inr (Or.inr (Or.inl rfl))) rfl rfl (Nat.zero_le _) (by omega)
      | exact leaf_gr _ rfl hn (Or.inr (Or.inr (Or.inr rfl))) rfl rfl (Nat.zero_le _) (by omega)
  | @or cur st r1 r he _ _ a b =>
    intro hn hc
    have hc := hc (by omega)
    have g0 := a hn (fun h => by omega)
    have g1 : Gr 1 0 st r1 := ⟨g0.ok, g0.app, g0.top, g0.big, fun h => by omega⟩
    obtain ⟨m1, e1⟩ := g1.app
    have hl : st.2.length ≤ r1.2.2.length := by rw [e1]; simp
    have ht1 := g1.top
    obtain ⟨j1, j2, j3, j4⟩ := join_ok (kind := 5) (s := r1.2.1) (Or.inr rfl) g1.ok (cur := cur) (j := r1.1) (by omega) (by omega)
    have g2 := b j1 (fun _ => j2)
    refine g1.comp g2 rfl (fun i h1 h2 => ?_) j4 (by omega) (fun _ => ?_)
    · simp only [joinS, addS, List.length_append, List.length_singleton] at h2
      obtain rfl : i = r1.2.2.length := by omega
      exact Int.le_refl _
    · have e : sizeAt r1.2.2 cur = sizeAt st.2 cur := by rw [e1, sizeN_app (by omega)]
      rw [← e]; exact j3
  | orEnd he => intro hn hc; exact Gr.refl hn (hc (by omega))
  | @and cur st r1 r he _ _ a b =>
    intro hn hc
    have hc := hc (by omega)
    have g1 := a hn (fun h => by omega)
    obtain ⟨m1, e1⟩ := g1.app
    have hl : st.2.length ≤ r1.2.2.length := by rw [e1]; simp
    have ht1 := g1.top
    obtain ⟨j1, j2, j3, j4⟩ := join_ok (kind := 4) (s := r1.2.1) (Or.inl rfl) g1.ok (cur := cur) (j := r1.1) (by omega) (by omega)
    have g2 := b j1 (fun _ => j2)
    refine g1.comp g2 rfl (fun i h1 h2 => ?_) j4 (by omega) (fun _ => ?_)
    · simp only [joinS, addS, List.length_append, List.length_singleton] at h2
      obtain rfl : i = r1.2.2.length := by omega
      exact Int.le_refl _
    · have e : sizeAt r1.2.2 cur = sizeAt st.2 cur := by rw [e1, sizeN_app (by omega)]
      rw [← e]; exact j3
  | andEnd he => intro hn hc; exact Gr.refl hn (hc (by omega))
  | @rep cur st r he _ a =>
    intro hn hc
    have hc := hc (by omega)
    obtain ⟨j1, j2, j3⟩ := again_ok (cur := cur) (s := (repeatS t st.1).2) (lm := (repeatS t st.1).1) hn (by omega) (repeat_bd t st.1) (repeat_le t st.1)
    have g2 := a j1 (fun _ => j2)
    refine (Gr.refl (tag := 6) hn hc).comp g2 rfl (fun i h1 h2 => ?_) j3 (by omega) (fun _ => j3)
    simp only [againS, addS, List.length_append, List.length_singleton] at h2
    simp only [] at h1
    obtain rfl : i = st.2.length := by omega
    exact Int.le_refl _
  | repEnd he => intro hn hc; exact Gr.refl hn (hc (by omega))

end Go.Proofs.Ytgifhgnccmnbiaa

set_option linter.unusedVariables false
set_option linter.unusedSimpArgs false
namespace Go.Proofs.Ytgifhgnccmnbiaa
open Go.RowKit

/-- All blocks but those of S stay as they were; none goes. -/
structure Kept (S : List Nat) (w w' : World) : Prop where
  os : w'.os = w.os
  tape : w'.tape = w.tape
  output : w'.output = w.output
  size : w.heap.size ≤ w'.heap.size
  block : ∀ k, k < w.heap.size → ¬ k ∈ S → w'.heap[k]? = w.heap[k]?

theorem Kept.refl (S : List Nat) (w : World) : Kept S w w := ⟨rfl, rfl, rfl, Nat.le_refl _, fun _ _ _ => rfl⟩

theorem Kept.trans {S : List Nat} {a b c : World} (h : Kept S a b) (k : Kept S b c) : Kept S a c :=
  ⟨k.os.trans h.os, k.tape.trans h.tape, k.output.trans h.output, Nat.le_trans h.size k.size, fun i hi hs => (k.block i (Nat.lt_of_lt_of_le hi h.size) hs).trans (h.block i hi hs)⟩

theorem Kept.drew {S : List Nat} {a w : World} (h : Kept S a w) : Kept S a w.drew := ⟨h.os, h.tape, h.output, h.size, h.block⟩
theorem Kept.drewN {S : List Nat} {a w : World} (h : Kept S a w) (n : Nat) : Kept S a (w.drewN n) := ⟨h.os, h.tape, h.output, h.size, h.block⟩

theorem Kept.alloc {S : List Nat} {a w : World} (h : Kept S a w) (o : Obj) : Kept S a (w.alloc o) :=
  h.trans ⟨rfl, rfl, rfl, by simp, fun k hk _ => Below.heap_alloc _ _ _ hk⟩

theorem Kept.setCell {S : List Nat} {a w : World} (h : Kept S a w) {p : Addr} (hp : p.block ∈ S ∨ a.heap.size ≤ p.block) (u : Value) : Kept S a (w.setCell p u) :=
  ⟨h.os, h.tape, h.output, by simpa [World.setCell] using h.size, fun k hk hs => by
    rw [Below.heap_setCell _ _ _ _ (by rintro rfl; rcases hp with hp | hp; exact hs hp; omega)]; exact h.block k hk hs⟩

theorem Kept.mono {S S' : List Nat} {w w' : World} (h : Kept S w w') (hs : ∀ k, k ∈ S → k ∈ S') : Kept S' w w' :=
  ⟨h.os, h.tape, h.output, h.size, fun k hk hk' => h.block k hk (fun e => hk' (hs k e))⟩

theorem Kept.below {S : List Nat} {w w' : World} {B : Nat} (h : Kept S w w') (hB : B ≤ w.heap.size) (hs : ∀ k, k ∈ S → B ≤ k) : Below B w w' :=
  ⟨h.os, h.tape, h.output, h.size, fun k hk => h.block k (by omega) (fun e => by have := hs k e; omega)⟩

/-- A whole block: its cells. -/
def Blk (w : World) (b : Nat) (cs : Array Value) (e : TypeId) : Prop := w.heap[b]? = some (.cells cs e (0, 0))

theorem Blk.lt {w : World} {b : Nat} {cs : Array Value} {e : TypeId} (h : Blk w b cs e) : b < w.heap.size := (Array.getElem?_eq_some_iff.1 h).1
theorem Blk.cell {w : World} {b : Nat} {cs : Array Value} {e : TypeId} (h : Blk w b cs e) (j : Nat) : w.cell? ⟨b, j, none⟩ = cs[j]? := by
  unfold Blk at h; simp [World.cell?, h]
theorem Blk.frozen {w : World} {b : Nat} {cs : Array Value} {e : TypeId} (h : Blk w b cs e) (j : Nat) : w.frozen? ⟨b, j, none⟩ = false := by
  unfold Blk at h; simp [World.frozen?, h]
theorem Blk.kept {S : List Nat} {w w' : World} {b : Nat} {cs : Array Value} {e : TypeId} (h : Blk w b cs e) (k : Kept S w w') (hb : ¬ b ∈ S) : Blk w' b cs e :=
  (k.block b h.lt hb).trans h
theorem Blk.drew {w : World} {b : Nat} {cs : Array Value} {e : TypeId} (h : Blk w b cs e) : Blk w.drew b cs e := h
theorem Blk.alloc {w : World} {b : Nat} {cs : Array Value} {e : TypeId} (h : Blk w b cs e) (o : Obj) : Blk (w.alloc o) b cs e :=
  (Below.heap_alloc _ _ _ h.lt).trans h
theorem Blk.new (w : World) (cs : Array Value) (e : TypeId) : Blk (w.alloc (.cells cs e)) w.heap.size cs e := heap_alloc_new w _
theorem Blk.set {w : World} {b : Nat} {cs : Array Value} {e : TypeId} (h : Blk w b cs e) (j : Nat) (v : Value) : Blk (w.setCell ⟨b, j, none⟩ v) b (cs.setIfInBounds j v) e := by
  unfold Blk at *; simp [World.setCell, Array.getElem?_modify, h]
theorem Blk.other {w : World} {b b' : Nat} {cs : Array Value} {e : TypeId} (h : Blk w b cs e) (j : Nat) (v : Value) (hn : b ≠ b') : Blk (w.setCell ⟨b', j, none⟩ v) b cs e :=
  (Below.heap_setCell _ _ _ _ hn).trans h

theorem ret_int {k : IntKind} {a b : Int} (h : a = b) : Ending.returned (.int k a) = .returned (.int k b) := by rw [h]
theorem ret_bool {a b : Bool} (h : a = b) : Ending.returned (.bool a) = .returned (.bool b) := by rw [h]

end Go.Proofs.Ytgifhgnccmnbiaa

set_option linter.unusedVariables false
set_option linter.unusedSimpArgs false
namespace Go.Proofs.Ytgifhgnccmnbiaa
open Go.RowKit Go.IntWalk

/-- The reader behind a pointer: its text, its place and mark, its nodes. -/
structure RD (w : World) (b : Nat) (t : ByteArray) (s : RS) (v : Value) : Prop where
  blk : Blk w b #[.string t, .int .i64 (s.1 : Int), v, .bool s.2] 103
  fits : Fits t s
  small : t.size ≤ 40

section
variable {w w' : World} {b p : Nat} {t : ByteArray} {s : RS} {v : Value} {bad : Bool}
theorem RD.c0 (h : RD w b t s v) : w.cell? ⟨b, 0, none⟩ = some (.string t) := by rw [Blk.cell h.blk]; rfl
theorem RD.c1 (h : RD w b t s v) : w.cell? ⟨b, 1, none⟩ = some (.int .i64 (s.1 : Int)) := by rw [Blk.cell h.blk]; rfl
theorem RD.c2 (h : RD w b t s v) : w.cell? ⟨b, 2, none⟩ = some v := by rw [Blk.cell h.blk]; rfl
theorem RD.c3 (h : RD w b t s v) : w.cell? ⟨b, 3, none⟩ = some (.bool s.2) := by rw [Blk.cell h.blk]; rfl
theorem RD.f (h : RD w b t s v) (j : Nat) : w.frozen? ⟨b, j, none⟩ = false := Blk.frozen h.blk j
theorem RD.upto (h : RD w b t s v) (p : Nat) (hp : p ≤ t.size) : RD (w.setCell ⟨b, 1, none⟩ (.int .i64 (p : Int))) b t (p, s.2) v := ⟨Blk.set h.blk 1 _, hp, h.small⟩
theorem RD.mark (h : RD w b t s v) : RD (w.setCell ⟨b, 3, none⟩ (.bool true)) b t (s.1, true) v := ⟨Blk.set h.blk 3 _, h.fits, h.small⟩
theorem RD.kept {S : List Nat} (h : RD w b t s v) (k : Kept S w w') (hb : ¬ b ∈ S) : RD w' b t s v := ⟨Blk.kept h.blk k hb, h.fits, h.small⟩
end

set_option maxHeartbeats 400000 in
theorem peek_any (b k : Nat) (t : ByteArray) (s : RS) (v : Value) (w : World) (h : RD w b t s v) (hk : k ≤ 1) :
    Calls Try.prog 127 #[.pointer (some ⟨b, 0, none⟩), .int .i64 (k : Int)] w fun e w' => e = .returned (.int .i64 (pk t (s.1 + k))) ∧ w' = w := by
  have h0 := h.c0
  have h1 := h.c1
  have hp := h.fits
  have hs := h.small
  obtain ⟨p, bad⟩ := s
  simp only [Fits] at hp
  clear h
  by_cases hlt : p + k < t.size
  · go_enter Try.func127, Try.ntmps127
    go_wp2
    go_ret
    exact ⟨ret_int (by rw [pk_lt hlt]; have := t[p + k].toNat_lt; exact wrap64_in _ (by omega)), rfl⟩
  · go_enter Try.func127, Try.ntmps127
    go_wp2
    go_ret
    exact ⟨ret_int (by rw [pk_ge hlt]), rfl⟩

theorem peek0 (b : Nat) (t : ByteArray) (s : RS) (v : Value) (w : World) (h : RD w b t s v) :
    Calls Try.prog 127 #[.pointer (some ⟨b, 0, none⟩), .int .i64 0] w fun e w' => e = .returned (.int .i64 (pk t s.1)) ∧ w' = w := peek_any b 0 t s v w h (by omega)
theorem peek1 (b : Nat) (t : ByteArray) (s : RS) (v : Value) (w : World) (h : RD w b t s v) :
    Calls Try.prog 127 #[.pointer (some ⟨b, 0, none⟩), .int .i64 1] w fun e w' => e = .returned (.int .i64 (pk t (s.1 + 1))) ∧ w' = w := peek_any b 1 t s v w h (by omega)

set_option maxHeartbeats 400000 in
theorem fail_any (b : Nat) (t : ByteArray) (s : RS) (v : Value) (w : World) (h : RD w b t s v) :
    Calls Try.prog 61 #[.pointer (some ⟨b, 0, none⟩)] w fun e w' => e = .returned (.tuple #[]) ∧ RD w' b t (failS t) v ∧ Kept [b] w w' := by
  have h0 := h.c0
  have h1 := h.c1
  have h3 := h.c3
  have f1 := h.f 1
  have f3 := h.f 3
  have hs := h.small
  go_enter Try.func61, Try.ntmps61
  go_wp2
  go_end0
  exact ⟨rfl, h.mark.upto _ (Nat.le_refl _), ((Kept.refl _ _).setCell (by simp) _).setCell (by simp) _⟩

set_option maxHeartbeats 400000 in
theorem next_any (b : Nat) (t : ByteArray) (s : RS) (v : Value) (w : World) (h : RD w b t s v) :
    Calls Try.prog 156 #[.pointer (some ⟨b, 0, none⟩)] w fun e w' => e = .returned (.int .i64 (nextS t s).1) ∧ RD w' b t (nextS t s).2 v ∧ Kept [b] w w' := by
  have h1 := h.c1
  have f1 := h.f 1
  have hp := h.fits
  have hs := h.small
  simp only [Fits] at hp
  by_cases hn : pk t s.1 = -1
  · have hb : (pk t s.1 == -1) = true := by rw [hn]; rfl
    have e : nextS t s = (0, failS t) := if_pos hn
    rw [e]
    clear hn e
    go_enter Try.func156, Try.ntmps156
    go_wp2_with (first | (go_at_call 127; refine (peek0 b t s v _ h).mono ?_; rintro e w' ⟨rfl, rfl⟩) | (go_at_call 61; refine (fail_any b t s v _ h).mono ?_; rintro e w' ⟨rfl, h', k'⟩))
    go_ret
    exact ⟨rfl, h', k'⟩
  · have hb : (pk t s.1 == -1) = false := by simpa using hn
    have e : nextS t s = (pk t s.1, (s.1 + 1, s.2)) := if_neg hn
    have hl : s.1 < t.size := by rw [pk_none] at hn; omega
    rw [e]
    clear hn e
    go_enter Try.func156, Try.ntmps156
    go_wp2_with (first | (go_at_call 127; refine (peek0 b t s v _ h).mono ?_; rintro e w' ⟨rfl, rfl⟩))
    go_ret
    exact ⟨rfl, h.upto (s.1 + 1) (by omega), (Kept.refl _ _).setCell (by simp) _⟩

set_option maxHeartbeats 400000 in
theorem take_any (b : Nat) (c : Int) (t : ByteArray) (s : RS) (v : Value) (w : World) (h : RD w b t s v) (hc : 0 ≤ c) (hc' : c ≤ 255) :
    Calls Try.prog 89 #[.pointer (some ⟨b, 0, none⟩), .int .i64 c] w fun e w' => e = .returned (.bool (takeS t c s).1) ∧ RD w' b t (takeS t c s).2 v ∧ Kept [b] w w' := by
  have h1 := h.c1
  have f1 := h.f 1
  have hp := h.fits
  have hs := h.small
  simp only [Fits] at hp
  by_cases hn : pk t s.1 = c
  · have hb : (pk t s.1 != c) = false := by rw [hn]; simp
    have e : takeS t c s = (true, (s.1 + 1, s.2)) := if_pos hn
    have hl : s.1 < t.size := pk_some (by omega)
    rw [e]
    clear hn e
    go_enter Try.func89, Try.ntmps89
    go_wp2_with (first | (go_at_call 127; refine (peek0 b t s v _ h).mono ?_; rintro e w' ⟨rfl, rfl⟩))
    go_ret
    exact ⟨rfl, h.upto (s.1 + 1) (by omega), (Kept.refl _ _).setCell (by simp) _⟩
  · have hb : (pk t s.1 != c) = true := by simpa using hn
    have e : takeS t c s = (false, s) := if_neg hn
    rw [e]
    clear hn e
    go_enter Try.func89, Try.ntmps89
    go_wp2_with (first | (go_at_call 127; refine (peek0 b t s v _ h).mono ?_; rintro e w' ⟨rfl, rfl⟩))
    go_ret
    exact ⟨rfl, h, Kept.refl _ _⟩

end Go.Proofs.Ytgifhgnccmnbiaa
