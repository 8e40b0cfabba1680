/- The reader of patterns: the list of nodes, as plain data: what each step makes of it. No Go in it. -/
import Derived.Test.YtgifhgnccmnbiaaRdPure
set_option linter.unusedVariables false
set_option linter.unusedSimpArgs false
namespace Go.Proofs.Ytgifhgnccmnbiaa

/-- A node of a pattern. -/
structure AN where
  kind : Int
  its : List (Int × Int) := []
  neg : Bool := false
  left : Int := 0
  right : Int := 0
  least : Int := 0
  most : Int := 0
  size : Int

/-- No size is above 61. -/
def capN (n : AN) : AN := { n with size := if 61 < n.size then 61 else n.size }

abbrev PS := RS × List AN
def sizeAt (ns : List AN) (i : Nat) : Int := ((ns[i]?).map AN.size).getD 0
def addS (n : AN) (st : PS) : Nat × PS := (st.2.length, (st.1, st.2 ++ [capN n]))
def joinS (kind : Int) (l r : Nat) (st : PS) : Nat × PS := addS { kind := kind, left := l, right := r, size := sizeAt st.2 l + sizeAt st.2 r } st
def timesS (least most : Int) : Int := if (if most = -1 then least else most) < 1 then 1 else (if most = -1 then least else most)
def againS (p : Nat) (lm : Int × Int) (st : PS) : Nat × PS :=
  addS { kind := 6, left := p, least := lm.1, most := lm.2, size := sizeAt st.2 p * timesS lm.1 lm.2 } st
def bytesS (lo hi : Int) (st : PS) : Nat × PS := addS { kind := 1, its := [(lo, hi)], size := 1 } st

/-- All sizes lie in 0 .. 61. -/
def Sized (ns : List AN) : Prop := ∀ n, n ∈ ns → 0 ≤ n.size ∧ n.size ≤ 61
theorem sizeAt_bd {ns : List AN} (h : Sized ns) (i : Nat) : 0 ≤ sizeAt ns i ∧ sizeAt ns i ≤ 61 := by
  unfold sizeAt
  cases hi : ns[i]? with
  | none => simp
  | some n => simpa using h n (List.mem_of_getElem? hi)
theorem sized_add {n : AN} {st : PS} (h : Sized st.2) (hn : 0 ≤ n.size) : Sized (addS n st).2.2 := by
  intro m hm
  simp only [addS, List.mem_append, List.mem_singleton] at hm
  rcases hm with hm | rfl
  · exact h m hm
  · simp only [capN]; split <;> omega

/- PROGRESS: a scanning step goes on, and never back. -/
theorem next_ge {t : ByteArray} {s : RS} (h : Fits t s) : s.1 ≤ (nextS t s).2.1 := by
  unfold nextS; split
  · exact h
  · exact Nat.le_succ _
theorem next_gt {t : ByteArray} {s : RS} (h : s.1 < t.size) : s.1 < (nextS t s).2.1 := by
  unfold nextS; split
  · exact h
  · exact Nat.lt_succ_self _
theorem take_ge {t : ByteArray} {s : RS} {c : Int} : s.1 ≤ (takeS t c s).2.1 := by
  unfold takeS; split
  · exact Nat.le_succ _
  · exact Nat.le_refl _
theorem take_gt {t : ByteArray} {s : RS} {c : Int} (h : (takeS t c s).1 = true) : s.1 < (takeS t c s).2.1 := by
  unfold takeS at *; split
  · exact Nat.lt_succ_self _
  · rename_i hc; rw [if_neg hc] at h; cases h
theorem mem_ge {t : ByteArray} {s : RS} (h : Fits t s) : s.1 ≤ (memS t s).2.1 := by
  unfold memS; split
  · exact Nat.le_trans (next_ge h) (next_ge (fits_next h))
  · exact next_ge h
theorem mem_gt {t : ByteArray} {s : RS} (h : s.1 < t.size) : s.1 < (memS t s).2.1 := by
  have hf : Fits t s := Nat.le_of_lt h
  unfold memS; split
  · exact Nat.lt_of_lt_of_le (next_gt h) (next_ge (fits_next hf))
  · exact next_gt h
theorem high_gt {t : ByteArray} {s : RS} (h : s.1 < t.size) : s.1 < (highS t s).2.1 := by
  have h1 := mem_gt h
  unfold highS; split
  · rename_i hq
    have := mem_ge (t := t) (s := ((memS t s).2.1 + 1, (memS t s).2.2)) (fits_sec hq)
    simp only [] at this
    omega
  · exact h1
theorem item_gt {t : ByteArray} {s : RS} (h : s.1 < t.size) : s.1 < (itemS t s).2.1 := by
  unfold itemS; simp only []; split
  · exact h
  · exact high_gt h
theorem itemQ_lt {t : ByteArray} {s : RS} (h : itemQ t s = true) : s.1 < t.size := by
  simp only [itemQ, Bool.and_eq_true, bne_iff_ne] at h
  have := h.1
  rw [Ne, pk_none] at this
  omega
theorem dig_ge {t : ByteArray} {s : RS} (h : Fits t s) : s.1 ≤ (digS t s).2.1 := by
  unfold digS; split
  · exact h
  · exact next_ge h
theorem up_ge {t : ByteArray} {s : RS} (h : Fits t s) : s.1 ≤ (upS t s).2.1 := by
  unfold upS; split
  · exact Nat.le_refl _
  · exact dig_ge h
theorem most_ge {t : ByteArray} {s : RS} (h : Fits t s) : s.1 ≤ (mostS t s).2.1 := by
  have h1 := dig_ge h
  have h2 := take_ge (t := t) (c := 44) (s := (digS t s).2)
  unfold mostS; split
  · exact Nat.le_trans h1 (Nat.le_trans h2 (up_ge (fits_take (by omega) (fits_dig h))))
  · exact Nat.le_trans h1 h2
theorem braces_ge {t : ByteArray} {s : RS} (h : Fits t s) : s.1 ≤ (bracesS t s).2.1 := by
  unfold bracesS; split
  · exact h
  · exact Nat.le_trans (most_ge h) take_ge
theorem repeat_gt {t : ByteArray} {s : RS} (h : s.1 < t.size) : s.1 < (repeatS t s).2.1 := by
  have h1 := next_gt h
  have h2 := braces_ge (t := t) (s := (nextS t s).2) (fits_next (Nat.le_of_lt h))
  unfold repeatS
  repeat' split
  all_goals first | exact h1 | exact Nat.lt_of_lt_of_le h1 h2
theorem repS_lt {t : ByteArray} {s : RS} (h : repS t s = true) : s.1 < t.size := by
  refine pk_some ?_
  simp only [repS, Bool.or_eq_true, beq_iff_eq] at h
  omega
theorem endS_lt {t : ByteArray} {s : RS} (h : endS t s = false) : s.1 < t.size := by
  simp only [endS, Bool.or_eq_false_iff, beq_eq_false_iff_ne] at h
  have := h.1.1
  rw [Ne, pk_none] at this
  omega

/- THE ITEMS OF A LIST. -/
def itemsF (t : ByteArray) : Nat → RS → List (Int × Int) → List (Int × Int) × RS
  | 0, s, acc => (acc, s)
  | f + 1, s, acc => if itemQ t s = true then itemsF t f (itemS t s).2 (acc ++ [(itemS t s).1]) else (acc, s)
theorem itemsF_more (t : ByteArray) : ∀ (f g : Nat) (s : RS) (acc : List (Int × Int)), t.size - s.1 ≤ f → t.size - s.1 ≤ g → itemsF t f s acc = itemsF t g s acc
  | 0, 0, _, _, _, _ => rfl
  | 0, g + 1, s, acc, h, _ => by
    rw [itemsF, itemsF, if_neg]
    intro hq; have := itemQ_lt hq; omega
  | f + 1, 0, s, acc, _, h => by
    rw [itemsF, itemsF, if_neg]
    intro hq; have := itemQ_lt hq; omega
  | f + 1, g + 1, s, acc, h1, h2 => by
    rw [itemsF, itemsF]
    split
    · rename_i hq
      have := item_gt (itemQ_lt hq)
      have := itemQ_lt hq
      exact itemsF_more t f g _ _ (by omega) (by omega)
    · rfl
def itemsS (t : ByteArray) (s : RS) (acc : List (Int × Int)) : List (Int × Int) × RS := itemsF t (t.size - s.1) s acc
theorem itemsS_on {t : ByteArray} {s : RS} {acc : List (Int × Int)} (h : itemQ t s = true) : itemsS t s acc = itemsS t (itemS t s).2 (acc ++ [(itemS t s).1]) := by
  have h1 := itemQ_lt h
  have h2 := item_gt h1
  unfold itemsS
  obtain ⟨f, hf⟩ : ∃ f, t.size - s.1 = f + 1 := ⟨t.size - s.1 - 1, by omega⟩
  rw [hf, itemsF, if_pos h]
  exact itemsF_more t _ _ _ _ (by omega) (Nat.le_refl _)
theorem itemsS_off {t : ByteArray} {s : RS} {acc : List (Int × Int)} (h : itemQ t s = false) : itemsS t s acc = (acc, s) := by
  unfold itemsS
  cases t.size - s.1 with
  | zero => rfl
  | succ f => rw [itemsF, if_neg (by rw [h]; decide)]

theorem itemsF_ge (t : ByteArray) : ∀ (f : Nat) (s : RS) (acc : List (Int × Int)), s.1 ≤ (itemsF t f s acc).2.1
  | 0, s, _ => Nat.le_refl _
  | f + 1, s, acc => by
    rw [itemsF]
    split
    · rename_i hq; exact Nat.le_trans (Nat.le_of_lt (item_gt (itemQ_lt hq))) (itemsF_ge t f _ _)
    · exact Nat.le_refl _
theorem itemsS_ge {t : ByteArray} {s : RS} {acc : List (Int × Int)} (h : Fits t s) : s.1 ≤ (itemsS t s acc).2.1 := itemsF_ge t _ s acc

/-- A list, behind its [. -/
def listS (t : ByteArray) (st : PS) : Nat × PS :=
  let a := takeS t 94 st.1
  let i := itemsS t a.2 []
  let c := takeS t 93 i.2
  addS { kind := 1, its := i.1, neg := a.1, size := 1 } (if c.1 = false ∨ i.1.length = 0 then failS t else c.2, st.2)

end Go.Proofs.Ytgifhgnccmnbiaa
