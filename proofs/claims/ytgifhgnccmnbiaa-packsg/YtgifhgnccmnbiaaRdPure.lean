/- The reader of patterns, the reader's small functions, as plain functions on the text, the place and the mark of failure. No Go in it. -/
set_option linter.unusedVariables false
set_option linter.unusedSimpArgs false
namespace Go.Proofs.Ytgifhgnccmnbiaa

/-- The byte at a place, -1 behind the last one. -/
def pk (t : ByteArray) (p : Nat) : Int := if h : p < t.size then (t[p].toNat : Int) else -1

theorem pk_lt {t : ByteArray} {p : Nat} (h : p < t.size) : pk t p = (t[p].toNat : Int) := dif_pos h
theorem pk_ge {t : ByteArray} {p : Nat} (h : ¬ p < t.size) : pk t p = -1 := dif_neg h
theorem pk_bd (t : ByteArray) (p : Nat) : -1 ≤ pk t p ∧ pk t p ≤ 255 := by
  by_cases h : p < t.size
  · rw [pk_lt h]; have := t[p].toNat_lt; omega
  · rw [pk_ge h]; omega
theorem pk_none {t : ByteArray} {p : Nat} : pk t p = -1 ↔ ¬ p < t.size := by
  constructor
  · intro h hl; rw [pk_lt hl] at h; omega
  · exact pk_ge
theorem pk_some {t : ByteArray} {p : Nat} (h : 0 ≤ pk t p) : p < t.size := by
  by_cases hl : p < t.size
  · exact hl
  · rw [pk_ge hl] at h; omega

abbrev RS := Nat × Bool
def failS (t : ByteArray) : RS := (t.size, true)
def nextS (t : ByteArray) (s : RS) : Int × RS := if pk t s.1 = -1 then (0, failS t) else (pk t s.1, (s.1 + 1, s.2))
def takeS (t : ByteArray) (c : Int) (s : RS) : Bool × RS := if pk t s.1 = c then (true, (s.1 + 1, s.2)) else (false, s)
def endS (t : ByteArray) (s : RS) : Bool := pk t s.1 == -1 || pk t s.1 == 124 || pk t s.1 == 41
def repS (t : ByteArray) (s : RS) : Bool := pk t s.1 == 42 || pk t s.1 == 43 || pk t s.1 == 63 || pk t s.1 == 123
def itemQ (t : ByteArray) (s : RS) : Bool := pk t s.1 != -1 && pk t s.1 != 93
def secS (t : ByteArray) (s : RS) : Bool := pk t s.1 == 45 && pk t (s.1 + 1) != -1 && pk t (s.1 + 1) != 93
def memS (t : ByteArray) (s : RS) : Int × RS := if (nextS t s).1 = 92 then nextS t (nextS t s).2 else nextS t s
def highS (t : ByteArray) (s : RS) : Int × RS :=
  if secS t (memS t s).2 = true then memS t ((memS t s).2.1 + 1, (memS t s).2.2) else memS t s
def itemS (t : ByteArray) (s : RS) : (Int × Int) × RS :=
  (((memS t s).1, (highS t s).1), if (highS t s).1 < (memS t s).1 then failS t else (highS t s).2)
def digS (t : ByteArray) (s : RS) : Int × RS :=
  if (nextS t s).1 < 48 ∨ 57 < (nextS t s).1 then (0, failS t) else ((nextS t s).1 - 48, (nextS t s).2)
def upS (t : ByteArray) (s : RS) : Int × RS := if pk t s.1 = 125 then (-1, s) else digS t s
def mostS (t : ByteArray) (s : RS) : Int × RS :=
  if (takeS t 44 (digS t s).2).1 = true then upS t (takeS t 44 (digS t s).2).2 else ((digS t s).1, (takeS t 44 (digS t s).2).2)
def bracesS (t : ByteArray) (s : RS) : (Int × Int) × RS :=
  if (takeS t 125 (mostS t s).2).1 = false ∨ ((mostS t s).1 ≠ -1 ∧ (mostS t s).1 < (digS t s).1) then ((0, 0), failS t)
  else (((digS t s).1, (mostS t s).1), (takeS t 125 (mostS t s).2).2)
def repeatS (t : ByteArray) (s : RS) : (Int × Int) × RS :=
  if (nextS t s).1 = 42 then ((0, -1), (nextS t s).2)
  else if (nextS t s).1 = 43 then ((1, -1), (nextS t s).2)
  else if (nextS t s).1 = 63 then ((0, 1), (nextS t s).2)
  else bracesS t (nextS t s).2

/-- The place stays within the text. -/
def Fits (t : ByteArray) (s : RS) : Prop := s.1 ≤ t.size
theorem fits_fail (t : ByteArray) : Fits t (failS t) := Nat.le_refl _
theorem fits_next {t : ByteArray} {s : RS} (_h : Fits t s) : Fits t (nextS t s).2 := by
  unfold nextS; split
  · exact fits_fail t
  · rename_i hn; rw [pk_none] at hn; simp only [Fits]; omega
theorem fits_take {t : ByteArray} {s : RS} {c : Int} (hc : 0 ≤ c) (h : Fits t s) : Fits t (takeS t c s).2 := by
  unfold takeS; split
  · rename_i hn; have := pk_some (t := t) (p := s.1) (by omega); simp only [Fits]; omega
  · exact h
theorem fits_mem {t : ByteArray} {s : RS} (h : Fits t s) : Fits t (memS t s).2 := by
  unfold memS; split
  · exact fits_next (fits_next h)
  · exact fits_next h
theorem fits_sec {t : ByteArray} {s : RS} (h : secS t s = true) : s.1 < t.size := by
  simp only [secS, Bool.and_eq_true, beq_iff_eq] at h
  exact pk_some (by omega)
theorem fits_high {t : ByteArray} {s : RS} (h : Fits t s) : Fits t (highS t s).2 := by
  unfold highS; split
  · rename_i hs; exact fits_mem (fits_sec hs)
  · exact fits_mem h
theorem fits_item {t : ByteArray} {s : RS} (h : Fits t s) : Fits t (itemS t s).2 := by
  unfold itemS; simp only []; split
  · exact fits_fail t
  · exact fits_high h
theorem fits_dig {t : ByteArray} {s : RS} (h : Fits t s) : Fits t (digS t s).2 := by
  unfold digS; split
  · exact fits_fail t
  · exact fits_next h
theorem fits_up {t : ByteArray} {s : RS} (h : Fits t s) : Fits t (upS t s).2 := by
  unfold upS; split
  · exact h
  · exact fits_dig h
theorem fits_most {t : ByteArray} {s : RS} (h : Fits t s) : Fits t (mostS t s).2 := by
  unfold mostS; split
  · exact fits_up (fits_take (by omega) (fits_dig h))
  · exact fits_take (by omega) (fits_dig h)
theorem fits_braces {t : ByteArray} {s : RS} (h : Fits t s) : Fits t (bracesS t s).2 := by
  unfold bracesS; split
  · exact fits_fail t
  · exact fits_take (by omega) (fits_most h)
theorem fits_repeat {t : ByteArray} {s : RS} (h : Fits t s) : Fits t (repeatS t s).2 := by
  unfold repeatS
  repeat' split
  all_goals first | exact fits_next h | exact fits_braces (fits_next h)

theorem next_bd (t : ByteArray) (s : RS) : 0 ≤ (nextS t s).1 ∧ (nextS t s).1 ≤ 255 := by
  have := pk_bd t s.1
  unfold nextS; split <;> simp only [] <;> omega
theorem mem_bd (t : ByteArray) (s : RS) : 0 ≤ (memS t s).1 ∧ (memS t s).1 ≤ 255 := by
  unfold memS; split <;> exact next_bd _ _
theorem dig_bd (t : ByteArray) (s : RS) : 0 ≤ (digS t s).1 ∧ (digS t s).1 ≤ 9 := by
  unfold digS; split
  · simp
  · rename_i h; simp only []; omega
theorem up_bd (t : ByteArray) (s : RS) : -1 ≤ (upS t s).1 ∧ (upS t s).1 ≤ 9 := by
  have := dig_bd t s
  unfold upS; split
  · simp
  · omega
theorem most_bd (t : ByteArray) (s : RS) : -1 ≤ (mostS t s).1 ∧ (mostS t s).1 ≤ 9 := by
  have h1 := dig_bd t s
  unfold mostS; split
  · exact up_bd _ _
  · simp only []; omega
theorem repeat_bd (t : ByteArray) (s : RS) : 0 ≤ (repeatS t s).1.1 ∧ (repeatS t s).1.1 ≤ 9 ∧ -1 ≤ (repeatS t s).1.2 ∧ (repeatS t s).1.2 ≤ 9 := by
  have h1 := dig_bd t (nextS t s).2
  have h2 := most_bd t (nextS t s).2
  unfold repeatS
  repeat' split
  all_goals try simp
  unfold bracesS
  split
  · simp
  · simp only []; omega

end Go.Proofs.Ytgifhgnccmnbiaa
