/- The reader of patterns, the reader's small functions, as plain functions on the text, the place and the mark of failure. No Go in it. -/
import Derived.Test.YtgifhgnccmnbiaaRows
import Derived.WalkKit
import Derived.WalkSpells
import Derived.WalkLawsBesides
import Derived.BigQuiet
import Derived.Deep.QuietTactic
import Derived.Deep.RegionWith
set_option linter.unusedVariables false
set_option linter.unusedSimpArgs false
namespace Go.Proofs.Ytgifhgnccmnbiaa

/-- The byte at a place, -1 behind the last one. -/
def pk (t : ByteArray) (p : Nat) : Int := if h : p < t.size then (t[p].toNat : Int) else -1

theorem pk_lt {t : ByteArray} {p : Nat} (h : p < t.size) : pk t p = (t[p].toNat : Int) := dif_pos h
theorem pk_ge {t : ByteArray} {p : Nat} (h : ¬ p < t.size) : pk t p = -1 := dif_neg h
theorem pk_bd (t : ByteArray) (p : Nat) : -1 ≤ pk t p ∧ pk t p ≤ 255 := by
  by_cases h : p < t.size
  · rw [pk_lt h]; have := t[p].toNat_lt; omega
  · rw [pk_ge h]; omega
theorem pk_none {t : ByteArray} {p : Nat} : pk t p = -1 ↔ ¬ p < t.size := by
  constructor
  · intro h hl; rw [pk_lt hl] at h; omega
  · exact pk_ge
theorem pk_some {t : ByteArray} {p : Nat} (h : 0 ≤ pk t p) : p < t.size := by
  by_cases hl : p < t.size
  · exact hl
  · rw [pk_ge hl] at h; omega

abbrev RS := Nat × Bool
def failS (t : ByteArray) : RS := (t.size, true)
def nextS (t : ByteArray) (s : RS) : Int × RS := if pk t s.1 = -1 then (0, failS t) else (pk t s.1, (s.1 + 1, s.2))
def takeS (t : ByteArray) (c : Int) (s : RS) : Bool × RS := if pk t s.1 = c then (true, (s.1 + 1, s.2)) else (false, s)
def endS (t : ByteArray) (s : RS) : Bool := pk t s.1 == -1 || pk t s.1 == 124 || pk t s.1 == 41
def repS (t : ByteArray) (s : RS) : Bool := pk t s.1 == 42 || pk t s.1 == 43 || pk t s.1 == 63 || pk t s.1 == 123
def itemQ (t : ByteArray) (s : RS) : Bool := pk t s.1 != -1 && pk t s.1 != 93
def secS (t : ByteArray) (s : RS) : Bool := pk t s.1 == 45 && pk t (s.1 + 1) != -1 && pk t (s.1 + 1) != 93
def memS (t : ByteArray) (s : RS) : Int × RS := if (nextS t s).1 = 92 then nextS t (nextS t s).2 else nextS t s
def highS (t : ByteArray) (s : RS) : Int × RS :=
  if secS t (memS t s).2 = true then memS t ((memS t s).2.1 + 1, (memS t s).2.2) else memS t s
def itemS (t : ByteArray) (s : RS) : (Int × Int) × RS :=
  (((memS t s).1, (highS t s).1), if (highS t s).1 < (memS t s).1 then failS t else (highS t s).2)
def digS (t : ByteArray) (s : RS) : Int × RS :=
  if (nextS t s).1 < 48 ∨ 57 < (nextS t s).1 then (0, failS t) else ((nextS t s).1 - 48, (nextS t s).2)
def upS (t : ByteArray) (s : RS) : Int × RS := if pk t s.1 = 125 then (-1, s) else digS t s
def mostS (t : ByteArray) (s : RS) : Int × RS :=
  if (takeS t 44 (digS t s).2).1 = true then upS t (takeS t 44 (digS t s).2).2 else ((digS t s).1, (takeS t 44 (digS t s).2).2)
def bracesS (t : ByteArray) (s : RS) : (Int × Int) × RS :=
  if (takeS t 125 (mostS t s).2).1 = false ∨ ((mostS t s).1 ≠ -1 ∧ (mostS t s).1 < (digS t s).1) then ((0, 0), failS t)
  else (((digS t s).1, (mostS t s).1), (takeS t 125 (mostS t s).2).2)
def repeatS (t : ByteArray) (s : RS) : (Int × Int) × RS :=
  if (nextS t s).1 = 42 then ((0, -1), (nextS t s).2)
  else if (nextS t s).1 = 43 then ((1, -1), (nextS t s).2)
  else if (nextS t s).1 = 63 then ((0, 1), (nextS t s).2)
  else bracesS t (nextS t s).2

/-- The place stays within the text. -/
def Fits (t : ByteArray) (s : RS) : Prop := s.1 ≤ t.size
theorem fits_fail (t : ByteArray) : Fits t (failS t) := Nat.le_refl _
theorem fits_next {t : ByteArray} {s : RS} (_h : Fits t s) : Fits t (nextS t s).2 := by
  unfold nextS; split
  · exact fits_fail t
  · rename_i hn; rw [pk_none] at hn; simp only [Fits]; omega
theorem fits_take {t : ByteArray} {s : RS} {c : Int} (hc : 0 ≤ c) (h : Fits t s) : Fits t (takeS t c s).2 := by
  unfold takeS; split
  · rename_i hn; have := pk_some (t := t) (p := s.1) (by omega); simp only [Fits]; omega
  · exact h
theorem fits_mem {t : ByteArray} {s : RS} (h : Fits t s) : Fits t (memS t s).2 := by
  unfold memS; split
  · exact fits_next (fits_next h)
  · exact fits_next h
theorem fits_sec {t : ByteArray} {s : RS} (h : secS t s = true) : s.1 < t.size := by
  simp only [secS, Bool.and_eq_true, beq_iff_eq] at h
  exact pk_some (by omega)
theorem fits_high {t : ByteArray} {s : RS} (h : Fits t s) : Fits t (highS t s).2 := by
  unfold highS; split
  · rename_i hs; exact fits_mem (fits_sec hs)
  · exact fits_mem h
theorem fits_item {t : ByteArray} {s : RS} (h : Fits t s) : Fits t (itemS t s).2 := by
  unfold itemS; simp only []; split
  · exact fits_fail t
  · exact fits_high h
theorem fits_dig {t : ByteArray} {s : RS} (h : Fits t s) : Fits t (digS t s).2 := by
  unfold digS; split
  · exact fits_fail t
  · exact fits_next h
theorem fits_up {t : ByteArray} {s : RS} (h : Fits t s) : Fits t (upS t s).2 := by
  unfold upS; split
  · exact h
  · exact fits_dig h
theorem fits_most {t : ByteArray} {s : RS} (h : Fits t s) : Fits t (mostS t s).2 := by
  unfold mostS; split
  · exact fits_up (fits_take (by omega) (fits_dig h))
  · exact fits_take (by omega) (fits_dig h)
theorem fits_braces {t : ByteArray} {s : RS} (h : Fits t s) : Fits t (bracesS t s).2 := by
  unfold bracesS; split
  · exact fits_fail t
  · exact fits_take (by omega) (fits_most h)
theorem fits_repeat {t : ByteArray} {s : RS} (h : Fits t s) : Fits t (repeatS t s).2 := by
  unfold repeatS
  repeat' split
  all_goals first | exact fits_next h | exact fits_braces (fits_next h)

theorem next_bd (t : ByteArray) (s : RS) : 0 ≤ (nextS t s).1 ∧ (nextS t s).1 ≤ 255 := by
  have := pk_bd t s.1
  unfold nextS; split <;> simp only [] <;> omega
theorem mem_bd (t : ByteArray) (s : RS) : 0 ≤ (memS t s).1 ∧ (memS t s).1 ≤ 255 := by
  unfold memS; split <;> exact next_bd _ _
theorem dig_bd (t : ByteArray) (s : RS) : 0 ≤ (digS t s).1 ∧ (digS t s).1 ≤ 9 := by
  unfold digS; split
  · simp
  · rename_i h; simp only []; omega
theorem up_bd (t : ByteArray) (s : RS) : -1 ≤ (upS t s).1 ∧ (upS t s).1 ≤ 9 := by
  have := dig_bd t s
  unfold upS; split
  · simp
  · omega
theorem most_bd (t : ByteArray) (s : RS) : -1 ≤ (mostS t s).1 ∧ (mostS t s).1 ≤ 9 := by
  have h1 := dig_bd t s
  unfold mostS; split
  · exact up_bd _ _
  · simp only []; omega
theorem repeat_bd (t : ByteArray) (s : RS) : 0 ≤ (repeatS t s).1.1 ∧ (repeatS t s).1.1 ≤ 9 ∧ -1 ≤ (repeatS t s).1.2 ∧ (repeatS t s).1.2 ≤ 9 := by
  have h1 := dig_bd t (nextS t s).2
  have h2 := most_bd t (nextS t s).2
  unfold repeatS
  repeat' split
  all_goals try simp
  unfold bracesS
  split
  · simp
  · simp only []; omega

end Go.Proofs.Ytgifhgnccmnbiaa

set_option linter.unusedVariables false
set_option linter.unusedSimpArgs false
namespace Go.Proofs.Ytgifhgnccmnbiaa

/-- Lengths are cut short at one above 2 to the 40. -/
def capL (n : Nat) : Nat := if 1099511627777 < n then 1099511627777 else n
theorem capL_le (n : Nat) : capL n ≤ 1099511627777 := by unfold capL; split <;> omega
theorem capL_cases (n : Nat) : (n ≤ 1099511627777 ∧ capL n = n) ∨ (1099511627777 < n ∧ capL n = 1099511627777) := by
  unfold capL
  by_cases h : 1099511627777 < n
  · rw [if_pos h]; exact Or.inr ⟨h, rfl⟩
  · rw [if_neg h]; exact Or.inl ⟨by omega, rfl⟩
theorem capL_add (a b : Nat) : capL (capL a + capL b) = capL (a + b) := by
  have h1 := capL_cases a
  have h2 := capL_cases b
  have h3 := capL_cases (a + b)
  have h4 := capL_cases (capL a + capL b)
  omega
theorem capL_zero {n : Nat} : capL n = 0 ↔ n = 0 := by unfold capL; split <;> omega
theorem capL_small {n : Nat} (h : capL n ≤ 1099511627776) : capL n = n := by unfold capL at h ⊢; split at h <;> (split <;> omega)
theorem capL_of {n : Nat} (h : n ≤ 1099511627777) : capL n = n := by unfold capL; rw [if_neg (by omega)]

/-- What is told of a part of a text. -/
structure PT where
  len : Nat := 0
  nl : Nat := 0
  first : Nat := 0
  last : Nat := 0
deriving DecidableEq
def nls (t : List Nat) : Nat := (t.filter (· == 10)).length
def ptOf (t : List Nat) : PT := if t = [] then {} else { len := capL t.length, nl := capL (nls t), first := t.headD 0, last := t.getLastD 0 }
def joinP (a b : PT) : PT := if a.len = 0 then b else if b.len = 0 then a else { len := capL (a.len + b.len), nl := capL (a.nl + b.nl), first := a.first, last := b.last }
def byteP (c : Nat) : PT := { len := 1, nl := if c = 10 then 1 else 0, first := c, last := c }
theorem nls_app (a b : List Nat) : nls (a ++ b) = nls a + nls b := by simp [nls, List.filter_append]
theorem nls_le (t : List Nat) : nls t ≤ t.length := List.length_filter_le _ _
theorem ptOf_len (t : List Nat) : (ptOf t).len = capL t.length := by
  unfold ptOf; split
  · rename_i h; subst h; rfl
  · rfl
theorem ptOf_nl (t : List Nat) : (ptOf t).nl = capL (nls t) := by
  unfold ptOf; split
  · rename_i h; subst h; rfl
  · rfl
theorem ptOf_nil : ptOf [] = {} := rfl
theorem ptOf_one (c : Nat) : ptOf [c] = byteP c := by
  unfold ptOf byteP nls
  rw [if_neg (by simp)]
  by_cases h : c = 10
  · subst h; rfl
  · simp [h, capL]
theorem join_ptOf (a b : List Nat) : joinP (ptOf a) (ptOf b) = ptOf (a ++ b) := by
  unfold joinP
  by_cases ha : a = []
  · subst ha; rw [if_pos (show (ptOf []).len = 0 from rfl)]; rfl
  · have h1 : (ptOf a).len ≠ 0 := by rw [ptOf_len, Ne, capL_zero]; intro h; exact ha (List.eq_nil_of_length_eq_zero h)
    rw [if_neg h1]
    by_cases hb : b = []
    · subst hb; rw [if_pos (show (ptOf []).len = 0 from rfl), List.append_nil]
    · have h2 : (ptOf b).len ≠ 0 := by rw [ptOf_len, Ne, capL_zero]; intro h; exact hb (List.eq_nil_of_length_eq_zero h)
      rw [if_neg h2, ptOf_len, ptOf_len, ptOf_nl, ptOf_nl, capL_add, capL_add]
      unfold ptOf
      rw [if_neg ha, if_neg hb, if_neg (by simp [ha])]
      simp only [PT.mk.injEq]
      refine ⟨by rw [List.length_append], by rw [nls_app], ?_, ?_⟩
      · cases a with
        | nil => exact absurd rfl ha
        | cons x l => rfl
      · cases b with
        | nil => exact absurd rfl hb
        | cons x l => rw [List.getLastD_eq_getLast?, List.getLastD_eq_getLast?, List.getLast?_append]; rw [List.getLast?_eq_some_getLast (by simp)]; rfl

/-- A rule as it is kept: its two symbols, and what is told of its text. -/
structure RU where
  l : Nat
  r : Nat
  pt : PT
def partAt (rs : List RU) (s : Nat) : PT := if s < 256 then byteP s else ((rs[s - 256]?).map RU.pt).getD {}
def ruleP (rs : List RU) (l r : Nat) : RU := { l := l, r := r, pt := joinP (partAt rs l) (partAt rs r) }

/-- What a symbol stands for, where the rules stand for these texts. -/
def symT (T : List (List Nat)) (s : Nat) : List Nat := if s < 256 then [s] else T.getD (s - 256) []
theorem symT_app {T U : List (List Nat)} {s : Nat} (h : s < 256 + T.length) : symT (T ++ U) s = symT T s := by
  unfold symT
  split
  · rfl
  · simp only [List.getD]
    rw [List.getElem?_append_left (by omega)]
theorem symT_new {T : List (List Nat)} {x : List Nat} : symT (T ++ [x]) (256 + T.length) = x := by
  unfold symT
  rw [if_neg (by omega), Nat.add_sub_cancel_left]
  simp [List.getD]
/-- The rules' parts are those of their texts. -/
structure Sound (rs : List RU) (T : List (List Nat)) : Prop where
  len : rs.length = T.length
  rule : ∀ i x, rs[i]? = some x → x.l < 256 + i ∧ x.r < 256 + i ∧ T.getD i [] = symT T x.l ++ symT T x.r ∧ x.pt = ptOf (T.getD i [])
  full : ∀ i, i < T.length → T.getD i [] ≠ []
theorem Sound.nil : Sound [] [] := ⟨rfl, fun i x h => by simp at h, fun i h => by simp at h⟩
theorem Sound.part {rs : List RU} {T : List (List Nat)} (h : Sound rs T) {s : Nat} (hs : s < 256 + rs.length) : partAt rs s = ptOf (symT T s) := by
  unfold partAt symT
  by_cases h1 : s < 256
  · rw [if_pos h1, if_pos h1, ptOf_one]
  · rw [if_neg h1, if_neg h1]
    obtain ⟨x, hx⟩ : ∃ x, rs[s - 256]? = some x := ⟨_, List.getElem?_eq_getElem (by omega)⟩
    rw [hx]
    exact (h.rule _ _ hx).2.2.2
theorem Sound.ne {rs : List RU} {T : List (List Nat)} (h : Sound rs T) {s : Nat} (hs : s < 256 + rs.length) : symT T s ≠ [] := by
  unfold symT
  split
  · simp
  · exact h.full _ (by rw [← h.len]; omega)
theorem Sound.push {rs : List RU} {T : List (List Nat)} (h : Sound rs T) {l r : Nat} (hl : l < 256 + rs.length) (hr : r < 256 + rs.length) :
    Sound (rs ++ [ruleP rs l r]) (T ++ [symT T l ++ symT T r]) := by
  have hlen := h.len
  refine ⟨by simp [hlen], fun i x hx => ?_, fun i hi => ?_⟩
  · by_cases hi : i < rs.length
    · rw [List.getElem?_append_left hi] at hx
      obtain ⟨a, b, c, d⟩ := h.rule i x hx
      have e : (T ++ [symT T l ++ symT T r]).getD i [] = T.getD i [] := by simp only [List.getD]; rw [List.getElem?_append_left (by omega)]
      rw [e, symT_app (by omega), symT_app (by omega)]
      exact ⟨a, b, c, d⟩
    · have hi2 : i = rs.length := by
        have := (List.getElem?_eq_some_iff.1 hx).1
        simp at this; omega
      subst hi2
      rw [List.getElem?_append_right (Nat.le_refl _), Nat.sub_self] at hx
      simp at hx
      subst hx
      have e : (T ++ [symT T l ++ symT T r]).getD rs.length [] = symT T l ++ symT T r := by rw [hlen]; simp [List.getD]
      rw [e]
      simp only [ruleP]
      rw [symT_app (by omega), symT_app (by omega)]
      exact ⟨hl, hr, rfl, by rw [h.part hl, h.part hr, join_ptOf]⟩
  · simp at hi
    by_cases hi2 : i < T.length
    · have e : (T ++ [symT T l ++ symT T r]).getD i [] = T.getD i [] := by simp only [List.getD]; rw [List.getElem?_append_left hi2]
      rw [e]; exact h.full i hi2
    · have : i = T.length := by omega
      subst this
      have e : (T ++ [symT T l ++ symT T r]).getD T.length [] = symT T l ++ symT T r := by simp [List.getD]
      rw [e]
      simp [h.ne hl]

/-- The document's: bytes, newlines, bytes behind the last newline. -/
structure PI where
  long : Nat := 0
  ends : Nat := 0
  tail : Nat := 0
def tailL (t : List Nat) : Nat := (t.reverse.takeWhile (· != 10)).length
theorem tailL_le (t : List Nat) : tailL t ≤ t.length := by
  unfold tailL
  have h := (List.takeWhile_sublist (l := t.reverse) (· != 10)).length_le
  simpa using h
theorem takeWhile_all {l : List Nat} (h : nls l = 0) : l.takeWhile (· != 10) = l := by
  induction l with
  | nil => rfl
  | cons x l ih =>
    unfold nls at h ih
    by_cases hx : x = 10
    · subst hx; simp at h
    · rw [List.takeWhile_cons_of_pos (by simpa using hx), ih (by simpa [hx] using h)]
theorem nls_rev (l : List Nat) : nls l.reverse = nls l := by unfold nls; rw [List.filter_reverse, List.length_reverse]
theorem takeWhile_app_stop {l m : List Nat} (h : nls l ≠ 0) : (l ++ m).takeWhile (· != 10) = l.takeWhile (· != 10) := by
  induction l with
  | nil => exact absurd rfl h
  | cons x l ih =>
    by_cases hx : x = 10
    · subst hx; simp
    · rw [List.cons_append, List.takeWhile_cons_of_pos (by simpa using hx), List.takeWhile_cons_of_pos (by simpa using hx), ih (by unfold nls at h ⊢; simpa [hx] using h)]
theorem tailL_app (a b : List Nat) : tailL (a ++ b) = if nls b = 0 then tailL a + b.length else tailL b := by
  unfold tailL
  rw [List.reverse_append]
  split
  · rename_i h
    rw [List.takeWhile_append_of_pos (by
      intro x hx
      have : b.reverse.takeWhile (· != 10) = b.reverse := takeWhile_all (by rw [nls_rev]; exact h)
      rw [← this] at hx
      have h2 := List.all_takeWhile (p := (· != 10)) (l := b.reverse)
      rw [List.all_eq_true] at h2
      exact h2 x hx)]
    simp; omega
  · rename_i h
    rw [takeWhile_app_stop (by rw [nls_rev]; exact h)]
def piOf (t : List Nat) : PI := { long := capL t.length, ends := capL (nls t), tail := capL (tailL t) }
def capS (a b : Nat) : Nat := if 1099511627776 < a + b then 1099511627777 else a + b
theorem capS_eq (a b : Nat) : capS a b = capL (a + b) := by
  have h1 := capL_cases (a + b)
  unfold capS
  by_cases h : 1099511627776 < a + b
  · rw [if_pos h]; omega
  · rw [if_neg h]; omega
def joinedP (a b : PI) : PI := { long := capS a.long b.long, ends := capS a.ends b.ends, tail := if b.ends = 0 then capS a.tail b.long else b.tail }
theorem joined_piOf (a b : List Nat) : joinedP (piOf a) (piOf b) = piOf (a ++ b) := by
  unfold joinedP piOf
  simp only [PI.mk.injEq]
  rw [capS_eq, capS_eq, capS_eq, capL_add, capL_add, capL_add, List.length_append, nls_app, tailL_app]
  refine ⟨rfl, rfl, ?_⟩
  by_cases h : nls b = 0
  · rw [if_pos (capL_zero.2 h), if_pos h]
  · rw [if_neg (fun hc => h (capL_zero.1 hc)), if_neg h]
def sizeP (ps : List PI) (s : Nat) : PI := if s = 10 then { long := 1, ends := 1 } else if s < 256 then { long := 1, tail := 1 } else ps.getD (s - 256) {}
theorem size_one (c : Nat) : (if c = 10 then ({ long := 1, ends := 1 } : PI) else { long := 1, tail := 1 }) = piOf [c] := by
  unfold piOf
  by_cases h : c = 10
  · subst h; rfl
  · rw [if_neg h]; simp [nls, tailL, h, capL]

/-- How many lines. -/
def linesS (p : PT) : Nat := if 0 < p.len ∧ p.last ≠ 10 then p.nl + 1 else p.nl
def linesR (p : PI) : Nat := if 0 < p.tail then p.ends + 1 else p.ends
theorem tail_last {t : List Nat} (h : t ≠ []) : 0 < tailL t ↔ t.getLastD 0 ≠ 10 := by
  obtain ⟨l, x, rfl⟩ : ∃ l x, t = l ++ [x] := ⟨t.dropLast, t.getLast h, (List.dropLast_concat_getLast h).symm⟩
  unfold tailL
  rw [List.reverse_append]
  simp only [List.reverse_cons, List.reverse_nil, List.nil_append, List.singleton_append, List.getLastD_concat]
  by_cases hx : x = 10
  · subst hx; simp
  · rw [List.takeWhile_cons_of_pos (by simpa using hx)]; simp [hx]
theorem lines_same (t : List Nat) : linesS (ptOf t) = linesR (piOf t) := by
  unfold linesS linesR
  rw [ptOf_len, ptOf_nl]
  show _ = if 0 < capL (tailL t) then capL (nls t) + 1 else capL (nls t)
  by_cases h : t = []
  · subst h; rfl
  · have h1 : 0 < capL t.length := by
      have : capL t.length ≠ 0 := fun hc => h (List.eq_nil_of_length_eq_zero (capL_zero.1 hc))
      omega
    have h2 : (ptOf t).last = t.getLastD 0 := by unfold ptOf; rw [if_neg h]
    have h3 : (0 < capL (tailL t)) ↔ 0 < tailL t := by
      have := @capL_zero (tailL t); omega
    rw [h2]
    by_cases h4 : t.getLastD 0 = 10
    · rw [if_neg (fun hc => hc.2 h4), if_neg (fun hc => ((tail_last h).1 (h3.1 hc)) h4)]
    · rw [if_pos ⟨h1, h4⟩, if_pos (h3.2 ((tail_last h).2 h4))]

end Go.Proofs.Ytgifhgnccmnbiaa

set_option linter.unusedVariables false
set_option linter.unusedSimpArgs false
namespace Go.Proofs.Ytgifhgnccmnbiaa
open Go.RowKit

/-- All blocks but those of S stay as they were; none goes. -/
structure Kept (S : List Nat) (w w' : World) : Prop where
  os : w'.os = w.os
  tape : w'.tape = w.tape
  output : w'.output = w.output
  size : w.heap.size ≤ w'.heap.size
  block : ∀ k, k < w.heap.size → ¬ k ∈ S → w'.heap[k]? = w.heap[k]?

theorem Kept.refl (S : List Nat) (w : World) : Kept S w w := ⟨rfl, rfl, rfl, Nat.le_refl _, fun _ _ _ => rfl⟩

theorem Kept.trans {S : List Nat} {a b c : World} (h : Kept S a b) (k : Kept S b c) : Kept S a c :=
  ⟨k.os.trans h.os, k.tape.trans h.tape, k.output.trans h.output, Nat.le_trans h.size k.size, fun i hi hs => (k.block i (Nat.lt_of_lt_of_le hi h.size) hs).trans (h.block i hi hs)⟩

theorem Kept.drew {S : List Nat} {a w : World} (h : Kept S a w) : Kept S a w.drew := ⟨h.os, h.tape, h.output, h.size, h.block⟩
theorem Kept.drewN {S : List Nat} {a w : World} (h : Kept S a w) (n : Nat) : Kept S a (w.drewN n) := ⟨h.os, h.tape, h.output, h.size, h.block⟩

theorem Kept.alloc {S : List Nat} {a w : World} (h : Kept S a w) (o : Obj) : Kept S a (w.alloc o) :=
  h.trans ⟨rfl, rfl, rfl, by simp, fun k hk _ => Below.heap_alloc _ _ _ hk⟩

theorem Kept.setCell {S : List Nat} {a w : World} (h : Kept S a w) {p : Addr} (hp : p.block ∈ S ∨ a.heap.size ≤ p.block) (u : Value) : Kept S a (w.setCell p u) :=
  ⟨h.os, h.tape, h.output, by simpa [World.setCell] using h.size, fun k hk hs => by
    rw [Below.heap_setCell _ _ _ _ (by rintro rfl; rcases hp with hp | hp; exact hs hp; omega)]; exact h.block k hk hs⟩

theorem Kept.mono {S S' : List Nat} {w w' : World} (h : Kept S w w') (hs : ∀ k, k ∈ S → k ∈ S') : Kept S' w w' :=
  ⟨h.os, h.tape, h.output, h.size, fun k hk hk' => h.block k hk (fun e => hk' (hs k e))⟩

theorem Kept.below {S : List Nat} {w w' : World} {B : Nat} (h : Kept S w w') (hB : B ≤ w.heap.size) (hs : ∀ k, k ∈ S → B ≤ k) : Below B w w' :=
  ⟨h.os, h.tape, h.output, h.size, fun k hk => h.block k (by omega) (fun e => by have := hs k e; omega)⟩

/-- A whole block: its cells. -/
def Blk (w : World) (b : Nat) (cs : Array Value) (e : TypeId) : Prop := w.heap[b]? = some (.cells cs e (0, 0))

theorem Blk.lt {w : World} {b : Nat} {cs : Array Value} {e : TypeId} (h : Blk w b cs e) : b < w.heap.size := (Array.getElem?_eq_some_iff.1 h).1
theorem Blk.cell {w : World} {b : Nat} {cs : Array Value} {e : TypeId} (h : Blk w b cs e) (j : Nat) : w.cell? ⟨b, j, none⟩ = cs[j]? := by
  unfold Blk at h; simp [World.cell?, h]
theorem Blk.frozen {w : World} {b : Nat} {cs : Array Value} {e : TypeId} (h : Blk w b cs e) (j : Nat) : w.frozen? ⟨b, j, none⟩ = false := by
  unfold Blk at h; simp [World.frozen?, h]
theorem Blk.kept {S : List Nat} {w w' : World} {b : Nat} {cs : Array Value} {e : TypeId} (h : Blk w b cs e) (k : Kept S w w') (hb : ¬ b ∈ S) : Blk w' b cs e :=
  (k.block b h.lt hb).trans h
theorem Blk.drew {w : World} {b : Nat} {cs : Array Value} {e : TypeId} (h : Blk w b cs e) : Blk w.drew b cs e := h
theorem Blk.alloc {w : World} {b : Nat} {cs : Array Value} {e : TypeId} (h : Blk w b cs e) (o : Obj) : Blk (w.alloc o) b cs e :=
  (Below.heap_alloc _ _ _ h.lt).trans h
theorem Blk.new (w : World) (cs : Array Value) (e : TypeId) : Blk (w.alloc (.cells cs e)) w.heap.size cs e := heap_alloc_new w _
theorem Blk.set {w : World} {b : Nat} {cs : Array Value} {e : TypeId} (h : Blk w b cs e) (j : Nat) (v : Value) : Blk (w.setCell ⟨b, j, none⟩ v) b (cs.setIfInBounds j v) e := by
  unfold Blk at *; simp [World.setCell, Array.getElem?_modify, h]
theorem Blk.other {w : World} {b b' : Nat} {cs : Array Value} {e : TypeId} (h : Blk w b cs e) (j : Nat) (v : Value) (hn : b ≠ b') : Blk (w.setCell ⟨b', j, none⟩ v) b cs e :=
  (Below.heap_setCell _ _ _ _ hn).trans h

theorem ret_int {k : IntKind} {a b : Int} (h : a = b) : Ending.returned (.int k a) = .returned (.int k b) := by rw [h]
theorem ret_bool {a b : Bool} (h : a = b) : Ending.returned (.bool a) = .returned (.bool b) := by rw [h]

end Go.Proofs.Ytgifhgnccmnbiaa

set_option linter.unusedVariables false
set_option linter.unusedSimpArgs false
namespace Go.Proofs.Ytgifhgnccmnbiaa
open Go.RowKit Go.IntWalk

/-- The reader behind a pointer: its text, its place and mark, its nodes. -/
structure RD (w : World) (b : Nat) (t : ByteArray) (s : RS) (v : Value) : Prop where
  blk : Blk w b #[.string t, .int .i64 (s.1 : Int), v, .bool s.2] 103
  fits : Fits t s
  small : t.size ≤ 40

section
variable {w w' : World} {b p : Nat} {t : ByteArray} {s : RS} {v : Value} {bad : Bool}
theorem RD.c0 (h : RD w b t s v) : w.cell? ⟨b, 0, none⟩ = some (.string t) := by rw [Blk.cell h.blk]; rfl
theorem RD.c1 (h : RD w b t s v) : w.cell? ⟨b, 1, none⟩ = some (.int .i64 (s.1 : Int)) := by rw [Blk.cell h.blk]; rfl
theorem RD.c2 (h : RD w b t s v) : w.cell? ⟨b, 2, none⟩ = some v := by rw [Blk.cell h.blk]; rfl
theorem RD.c3 (h : RD w b t s v) : w.cell? ⟨b, 3, none⟩ = some (.bool s.2) := by rw [Blk.cell h.blk]; rfl
theorem RD.f (h : RD w b t s v) (j : Nat) : w.frozen? ⟨b, j, none⟩ = false := Blk.frozen h.blk j
theorem RD.upto (h : RD w b t s v) (p : Nat) (hp : p ≤ t.size) : RD (w.setCell ⟨b, 1, none⟩ (.int .i64 (p : Int))) b t (p, s.2) v := ⟨Blk.set h.blk 1 _, hp, h.small⟩
theorem RD.mark (h : RD w b t s v) : RD (w.setCell ⟨b, 3, none⟩ (.bool true)) b t (s.1, true) v := ⟨Blk.set h.blk 3 _, h.fits, h.small⟩
theorem RD.kept {S : List Nat} (h : RD w b t s v) (k : Kept S w w') (hb : ¬ b ∈ S) : RD w' b t s v := ⟨Blk.kept h.blk k hb, h.fits, h.small⟩
end

set_option maxHeartbeats 400000 in
theorem peek_any (b k : Nat) (t : ByteArray) (s : RS) (v : Value) (w : World) (h : RD w b t s v) (hk : k ≤ 1) :
    Calls Try.prog 127 #[.pointer (some ⟨b, 0, none⟩), .int .i64 (k : Int)] w fun e w' => e = .returned (.int .i64 (pk t (s.1 + k))) ∧ w' = w := by
  have h0 := h.c0
  have h1 := h.c1
  have hp := h.fits
  have hs := h.small
  obtain ⟨p, bad⟩ := s
  simp only [Fits] at hp
  clear h
  by_cases hlt : p + k < t.size
  · go_enter Try.func127, Try.ntmps127
    go_wp2
    go_ret
    exact ⟨ret_int (by rw [pk_lt hlt]; have := t[p + k].toNat_lt; exact wrap64_in _ (by omega)), rfl⟩
  · go_enter Try.func127, Try.ntmps127
    go_wp2
    go_ret
    exact ⟨ret_int (by rw [pk_ge hlt]), rfl⟩

theorem peek0 (b : Nat) (t : ByteArray) (s : RS) (v : Value) (w : World) (h : RD w b t s v) :
    Calls Try.prog 127 #[.pointer (some ⟨b, 0, none⟩), .int .i64 0] w fun e w' => e = .returned (.int .i64 (pk t s.1)) ∧ w' = w := peek_any b 0 t s v w h (by omega)
theorem peek1 (b : Nat) (t : ByteArray) (s : RS) (v : Value) (w : World) (h : RD w b t s v) :
    Calls Try.prog 127 #[.pointer (some ⟨b, 0, none⟩), .int .i64 1] w fun e w' => e = .returned (.int .i64 (pk t (s.1 + 1))) ∧ w' = w := peek_any b 1 t s v w h (by omega)

set_option maxHeartbeats 400000 in
theorem fail_any (b : Nat) (t : ByteArray) (s : RS) (v : Value) (w : World) (h : RD w b t s v) :
    Calls Try.prog 61 #[.pointer (some ⟨b, 0, none⟩)] w fun e w' => e = .returned (.tuple #[]) ∧ RD w' b t (failS t) v ∧ Kept [b] w w' := by
  have h0 := h.c0
  have h1 := h.c1
  have h3 := h.c3
  have f1 := h.f 1
  have f3 := h.f 3
  have hs := h.small
  go_enter Try.func61, Try.ntmps61
  go_wp2
  go_end0
  exact ⟨rfl, h.mark.upto _ (Nat.le_refl _), ((Kept.refl _ _).setCell (by simp) _).setCell (by simp) _⟩

set_option maxHeartbeats 400000 in
theorem next_any (b : Nat) (t : ByteArray) (s : RS) (v : Value) (w : World) (h : RD w b t s v) :
    Calls Try.prog 156 #[.pointer (some ⟨b, 0, none⟩)] w fun e w' => e = .returned (.int .i64 (nextS t s).1) ∧ RD w' b t (nextS t s).2 v ∧ Kept [b] w w' := by
  have h1 := h.c1
  have f1 := h.f 1
  have hp := h.fits
  have hs := h.small
  simp only [Fits] at hp
  by_cases hn : pk t s.1 = -1
  · have hb : (pk t s.1 == -1) = true := by rw [hn]; rfl
    have e : nextS t s = (0, failS t) := if_pos hn
    rw [e]
    clear hn e
    go_enter Try.func156, Try.ntmps156
    go_wp2_with (first | (go_at_call 127; refine (peek0 b t s v _ h).mono ?_; rintro e w' ⟨rfl, rfl⟩) | (go_at_call 61; refine (fail_any b t s v _ h).mono ?_; rintro e w' ⟨rfl, h', k'⟩))
    go_ret
    exact ⟨rfl, h', k'⟩
  · have hb : (pk t s.1 == -1) = false := by simpa using hn
    have e : nextS t s = (pk t s.1, (s.1 + 1, s.2)) := if_neg hn
    have hl : s.1 < t.size := by rw [pk_none] at hn; omega
    rw [e]
    clear hn e
    go_enter Try.func156, Try.ntmps156
    go_wp2_with (first | (go_at_call 127; refine (peek0 b t s v _ h).mono ?_; rintro e w' ⟨rfl, rfl⟩))
    go_ret
    exact ⟨rfl, h.upto (s.1 + 1) (by omega), (Kept.refl _ _).setCell (by simp) _⟩

set_option maxHeartbeats 400000 in
theorem take_any (b : Nat) (c : Int) (t : ByteArray) (s : RS) (v : Value) (w : World) (h : RD w b t s v) (hc : 0 ≤ c) (hc' : c ≤ 255) :
    Calls Try.prog 89 #[.pointer (some ⟨b, 0, none⟩), .int .i64 c] w fun e w' => e = .returned (.bool (takeS t c s).1) ∧ RD w' b t (takeS t c s).2 v ∧ Kept [b] w w' := by
  have h1 := h.c1
  have f1 := h.f 1
  have hp := h.fits
  have hs := h.small
  simp only [Fits] at hp
  by_cases hn : pk t s.1 = c
  · have hb : (pk t s.1 != c) = false := by rw [hn]; simp
    have e : takeS t c s = (true, (s.1 + 1, s.2)) := if_pos hn
    have hl : s.1 < t.size := pk_some (by omega)
    rw [e]
    clear hn e
    go_enter Try.func89, Try.ntmps89
    go_wp2_with (first | (go_at_call 127; refine (peek0 b t s v _ h).mono ?_; rintro e w' ⟨rfl, rfl⟩))
    go_ret
    exact ⟨rfl, h.upto (s.1 + 1) (by omega), (Kept.refl _ _).setCell (by simp) _⟩
  · have hb : (pk t s.1 != c) = true := by simpa using hn
    have e : takeS t c s = (false, s) := if_neg hn
    rw [e]
    clear hn e
    go_enter Try.func89, Try.ntmps89
    go_wp2_with (first | (go_at_call 127; refine (peek0 b t s v _ h).mono ?_; rintro e w' ⟨rfl, rfl⟩))
    go_ret
    exact ⟨rfl, h, Kept.refl _ _⟩

end Go.Proofs.Ytgifhgnccmnbiaa

set_option linter.unusedVariables false
set_option linter.unusedSimpArgs false
namespace Go.Proofs.Ytgifhgnccmnbiaa
open Go.RowKit Go.IntWalk

set_option maxHeartbeats 400000 in
theorem atEnd_any (b : Nat) (t : ByteArray) (s : RS) (v : Value) (w : World) (h : RD w b t s v) :
    Calls Try.prog 124 #[.pointer (some ⟨b, 0, none⟩)] w fun e w' => e = .returned (.bool (endS t s)) ∧ w' = w := by
  go_enter Try.func124, Try.ntmps124
  go_wp2_with (first | (go_at_call 127; refine (peek0 b t s v _ h).mono ?_; rintro e w' ⟨rfl, rfl⟩))
  all_goals go_ret
  all_goals exact ⟨ret_bool (by simp [endS, *]), rfl⟩

set_option maxHeartbeats 400000 in
theorem atRep_any (b : Nat) (t : ByteArray) (s : RS) (v : Value) (w : World) (h : RD w b t s v) :
    Calls Try.prog 147 #[.pointer (some ⟨b, 0, none⟩)] w fun e w' => e = .returned (.bool (repS t s)) ∧ w' = w := by
  go_enter Try.func147, Try.ntmps147
  go_wp2_with (first | (go_at_call 127; refine (peek0 b t s v _ h).mono ?_; rintro e w' ⟨rfl, rfl⟩))
  all_goals go_ret
  all_goals exact ⟨ret_bool (by simp [repS, *]), rfl⟩

set_option maxHeartbeats 400000 in
theorem atItem_any (b : Nat) (t : ByteArray) (s : RS) (v : Value) (w : World) (h : RD w b t s v) :
    Calls Try.prog 162 #[.pointer (some ⟨b, 0, none⟩)] w fun e w' => e = .returned (.bool (itemQ t s)) ∧ w' = w := by
  go_enter Try.func162, Try.ntmps162
  go_wp2_with (first | (go_at_call 127; refine (peek0 b t s v _ h).mono ?_; rintro e w' ⟨rfl, rfl⟩))
  all_goals go_ret
  all_goals exact ⟨ret_bool (by simp [itemQ, *]), rfl⟩

set_option maxHeartbeats 400000 in
theorem atSec_any (b : Nat) (t : ByteArray) (s : RS) (v : Value) (w : World) (h : RD w b t s v) :
    Calls Try.prog 167 #[.pointer (some ⟨b, 0, none⟩)] w fun e w' => e = .returned (.bool (secS t s)) ∧ w' = w := by
  go_enter Try.func167, Try.ntmps167
  go_wp2_with fail
  refine (peek0 b t s v _ h).mono ?_
  rintro e w' ⟨rfl, rfl⟩
  go_wp2_with fail
  refine (peek1 b t s v _ h).mono ?_
  rintro e w' ⟨rfl, rfl⟩
  go_wp2
  all_goals go_ret
  all_goals exact ⟨ret_bool (by simp [secS, *]), rfl⟩

set_option maxHeartbeats 400000 in
theorem member_any (b : Nat) (t : ByteArray) (s : RS) (v : Value) (w : World) (h : RD w b t s v) :
    Calls Try.prog 166 #[.pointer (some ⟨b, 0, none⟩)] w fun e w' => e = .returned (.int .i64 (memS t s).1) ∧ RD w' b t (memS t s).2 v ∧ Kept [b] w w' := by
  by_cases hn : (nextS t s).1 = 92
  · have hb : ((nextS t s).1 == 92) = true := by rw [hn]; rfl
    have e : memS t s = nextS t (nextS t s).2 := if_pos hn
    rw [e]
    clear hn e
    go_enter Try.func166, Try.ntmps166
    go_wp2_with fail
    refine (next_any b t s v _ h).mono ?_
    rintro e w1 ⟨rfl, h1, k1⟩
    go_wp2_with fail
    refine (next_any b t _ v _ h1).mono ?_
    rintro e w2 ⟨rfl, h2, k2⟩
    go_wp2
    go_ret
    exact ⟨rfl, h2, k1.trans k2⟩
  · have hb : ((nextS t s).1 == 92) = false := by simpa using hn
    have e : memS t s = nextS t s := if_neg hn
    rw [e]
    clear hn e
    go_enter Try.func166, Try.ntmps166
    go_wp2_with fail
    refine (next_any b t s v _ h).mono ?_
    rintro e w1 ⟨rfl, h1, k1⟩
    go_wp2
    go_ret
    exact ⟨rfl, h1, k1⟩

set_option maxHeartbeats 400000 in
theorem digit_any (b : Nat) (t : ByteArray) (s : RS) (v : Value) (w : World) (h : RD w b t s v) :
    Calls Try.prog 164 #[.pointer (some ⟨b, 0, none⟩)] w fun e w' => e = .returned (.int .i64 (digS t s).1) ∧ RD w' b t (digS t s).2 v ∧ Kept [b] w w' := by
  have hbd := next_bd t s
  by_cases hn : (nextS t s).1 < 48
  · have e : digS t s = (0, failS t) := if_pos (Or.inl hn)
    rw [e]
    clear e
    go_enter Try.func164, Try.ntmps164
    go_wp2_with fail
    refine (next_any b t s v _ h).mono ?_
    rintro e w1 ⟨rfl, h1, k1⟩
    go_wp2_with fail
    refine (fail_any b t _ v _ h1).mono ?_
    rintro e w2 ⟨rfl, h2, k2⟩
    go_wp2
    go_ret
    exact ⟨rfl, h2, k1.trans k2⟩
  by_cases hm : 57 < (nextS t s).1
  · have e : digS t s = (0, failS t) := if_pos (Or.inr hm)
    rw [e]
    clear e
    go_enter Try.func164, Try.ntmps164
    go_wp2_with fail
    refine (next_any b t s v _ h).mono ?_
    rintro e w1 ⟨rfl, h1, k1⟩
    go_wp2_with fail
    refine (fail_any b t _ v _ h1).mono ?_
    rintro e w2 ⟨rfl, h2, k2⟩
    go_wp2
    go_ret
    exact ⟨rfl, h2, k1.trans k2⟩
  · have e : digS t s = ((nextS t s).1 - 48, (nextS t s).2) := if_neg (by omega)
    rw [e]
    clear e
    go_enter Try.func164, Try.ntmps164
    go_wp2_with fail
    refine (next_any b t s v _ h).mono ?_
    rintro e w1 ⟨rfl, h1, k1⟩
    go_wp2
    go_ret
    exact ⟨rfl, h1, k1⟩

set_option maxHeartbeats 400000 in
theorem upper_any (b : Nat) (t : ByteArray) (s : RS) (v : Value) (w : World) (h : RD w b t s v) :
    Calls Try.prog 165 #[.pointer (some ⟨b, 0, none⟩)] w fun e w' => e = .returned (.int .i64 (upS t s).1) ∧ RD w' b t (upS t s).2 v ∧ Kept [b] w w' := by
  by_cases hn : pk t s.1 = 125
  · have hb : (pk t s.1 == 125) = true := by rw [hn]; rfl
    have e : upS t s = (-1, s) := if_pos hn
    rw [e]
    clear hn e
    go_enter Try.func165, Try.ntmps165
    go_wp2_with fail
    refine (peek0 b t s v _ h).mono ?_
    rintro e w1 ⟨rfl, rfl⟩
    go_wp2
    go_ret
    exact ⟨rfl, h, Kept.refl _ _⟩
  · have hb : (pk t s.1 == 125) = false := by simpa using hn
    have e : upS t s = digS t s := if_neg hn
    rw [e]
    clear hn e
    go_enter Try.func165, Try.ntmps165
    go_wp2_with fail
    refine (peek0 b t s v _ h).mono ?_
    rintro e w1 ⟨rfl, rfl⟩
    go_wp2_with fail
    refine (digit_any b t s v _ h).mono ?_
    rintro e w1 ⟨rfl, h1, k1⟩
    go_wp2
    go_ret
    exact ⟨rfl, h1, k1⟩

end Go.Proofs.Ytgifhgnccmnbiaa

set_option linter.unusedVariables false
set_option linter.unusedSimpArgs false
namespace Go.Proofs.Ytgifhgnccmnbiaa
open Go.RowKit Go.IntWalk

set_option maxHeartbeats 1000000 in
theorem item_any (b : Nat) (t : ByteArray) (s : RS) (v : Value) (w : World) (h : RD w b t s v) :
    Calls Try.prog 163 #[.pointer (some ⟨b, 0, none⟩)] w fun e w' =>
      e = .returned (.agg #[.int .i64 (itemS t s).1.1, .int .i64 (itemS t s).1.2]) ∧ RD w' b t (itemS t s).2 v ∧ Kept [b] w w' := by
  have hbw : b < w.heap.size := h.blk.lt
  have hz : RD (w.alloc (.cells #[.int .i64 0, .int .i64 0] 208)) b t s v := h.kept (Kept.alloc (Kept.refl [] w) _) (by simp)
  have kz : Kept [b] w (w.alloc (.cells #[.int .i64 0, .int .i64 0] 208)) := Kept.alloc (Kept.refl _ w) _
  have bz : Blk (w.alloc (.cells #[.int .i64 0, .int .i64 0] 208)) w.heap.size #[.int .i64 0, .int .i64 0] 208 := Blk.new _ _ _
  clear h
  have fin : ∀ (x : World) (lo hi : Int) (s' : RS), RD x b t s' v → Kept [b] w x → Blk x w.heap.size #[.int .i64 0, .int .i64 0] 208 →
      ((x.setCell ⟨w.heap.size, 0, none⟩ (.int .i64 lo)).setCell ⟨w.heap.size, 1, none⟩ (.int .i64 hi)).cell? ⟨w.heap.size, 0, none⟩ = some (.int .i64 lo) ∧
      ((x.setCell ⟨w.heap.size, 0, none⟩ (.int .i64 lo)).setCell ⟨w.heap.size, 1, none⟩ (.int .i64 hi)).cell? ⟨w.heap.size, 1, none⟩ = some (.int .i64 hi) ∧
      RD ((x.setCell ⟨w.heap.size, 0, none⟩ (.int .i64 lo)).setCell ⟨w.heap.size, 1, none⟩ (.int .i64 hi)) b t s' v ∧
      Kept [b] w ((x.setCell ⟨w.heap.size, 0, none⟩ (.int .i64 lo)).setCell ⟨w.heap.size, 1, none⟩ (.int .i64 hi)) := by
    intro x lo hi s' hr hk hb
    have hb2 := (hb.set 0 (.int .i64 lo)).set 1 (.int .i64 hi)
    refine ⟨by rw [hb2.cell]; rfl, by rw [hb2.cell]; rfl, ⟨Blk.other (Blk.other hr.blk _ _ (by omega)) _ _ (by omega), hr.fits, hr.small⟩, (hk.setCell (Or.inr (Nat.le_refl _)) _).setCell (Or.inr (Nat.le_refl _)) _⟩
  by_cases hq : secS t (memS t s).2 = true
  · have e1 : highS t s = memS t ((memS t s).2.1 + 1, (memS t s).2.2) := if_pos hq
    have hl : (memS t s).2.1 < t.size := fits_sec hq
    by_cases hc : (highS t s).1 < (memS t s).1
    · have e2 : itemS t s = (((memS t s).1, (highS t s).1), failS t) := by unfold itemS; rw [if_pos hc]
      rw [e2]
      rw [e1] at hc ⊢
      clear e1 e2
      go_enter Try.func163, Try.ntmps163
      go_wp2_with fail
      refine (member_any b t s v _ hz).mono ?_
      rintro e w1 ⟨rfl, h1, k1⟩
      go_wp2_with fail
      refine (atSec_any b t _ v _ h1).mono ?_
      rintro e w1 ⟨rfl, rfl⟩
      have q1 := h1.c1
      have q2 := h1.f 1
      have hsm := h1.small
      go_wp2_with fail
      refine (member_any b t _ v _ (h1.upto _ hl)).mono ?_
      rintro e w2 ⟨rfl, h2, k2⟩
      go_wp2_with fail
      refine (fail_any b t _ v _ h2).mono ?_
      rintro e w3 ⟨rfl, h3, k3⟩
      have kk := (k1.trans (((Kept.refl _ _).setCell (by simp) _).trans k2)).trans k3
      have b3 := bz.kept kk (by simp; omega)
      have g0 := b3.frozen 0
      have g1 := b3.frozen 1
      have g2 := b3.cell 0
      have g3 := b3.cell 1
      obtain ⟨r0, r1, r2, r3⟩ := fin w3 (memS t s).1 _ _ h3 (kz.trans kk) b3
      go_wp2
      exact bodyPost_ret (v := .agg #[.int .i64 _, .int .i64 _]) (by simp [results, Try.results163, go_sem, r0, r1]) rfl ⟨rfl, r2, r3⟩
    · have e2 : itemS t s = (((memS t s).1, (highS t s).1), (highS t s).2) := by unfold itemS; rw [if_neg hc]
      rw [e2]
      rw [e1] at hc ⊢
      clear e1 e2
      go_enter Try.func163, Try.ntmps163
      go_wp2_with fail
      refine (member_any b t s v _ hz).mono ?_
      rintro e w1 ⟨rfl, h1, k1⟩
      go_wp2_with fail
      refine (atSec_any b t _ v _ h1).mono ?_
      rintro e w1 ⟨rfl, rfl⟩
      have q1 := h1.c1
      have q2 := h1.f 1
      have hsm := h1.small
      go_wp2_with fail
      refine (member_any b t _ v _ (h1.upto _ hl)).mono ?_
      rintro e w2 ⟨rfl, h2, k2⟩
      have kk := k1.trans (((Kept.refl _ _).setCell (by simp) _).trans k2)
      have b3 := bz.kept kk (by simp; omega)
      have g0 := b3.frozen 0
      have g1 := b3.frozen 1
      have g2 := b3.cell 0
      have g3 := b3.cell 1
      obtain ⟨r0, r1, r2, r3⟩ := fin w2 (memS t s).1 _ _ h2 (kz.trans kk) b3
      go_wp2
      exact bodyPost_ret (v := .agg #[.int .i64 _, .int .i64 _]) (by simp [results, Try.results163, go_sem, r0, r1]) rfl ⟨rfl, r2, r3⟩
  · have e1 : highS t s = memS t s := if_neg hq
    have e2 : itemS t s = (((memS t s).1, (memS t s).1), (memS t s).2) := by unfold itemS; rw [e1, if_neg (by omega)]
    have hf : secS t (memS t s).2 = false := by simpa using hq
    rw [e2]
    clear e1 e2 hq
    go_enter Try.func163, Try.ntmps163
    go_wp2_with fail
    refine (member_any b t s v _ hz).mono ?_
    rintro e w1 ⟨rfl, h1, k1⟩
    go_wp2_with fail
    refine (atSec_any b t _ v _ h1).mono ?_
    rintro e w1 ⟨rfl, rfl⟩
    have b3 := bz.kept k1 (by simp; omega)
    have g0 := b3.frozen 0
    have g1 := b3.frozen 1
    have g2 := b3.cell 0
    have g3 := b3.cell 1
    obtain ⟨r0, r1, r2, r3⟩ := fin w1 (memS t s).1 (memS t s).1 _ h1 (kz.trans k1) b3
    go_wp2
    exact bodyPost_ret (v := .agg #[.int .i64 _, .int .i64 _]) (by simp [results, Try.results163, go_sem, r0, r1]) rfl ⟨rfl, r2, r3⟩

set_option maxHeartbeats 400000 in
/-- The upper bound of a pair of braces. -/
theorem most_true {t : ByteArray} {s : RS} (h : (takeS t 44 (digS t s).2).1 = true) : mostS t s = upS t (takeS t 44 (digS t s).2).2 := if_pos h
theorem most_false {t : ByteArray} {s : RS} (h : (takeS t 44 (digS t s).2).1 = false) : mostS t s = ((digS t s).1, (takeS t 44 (digS t s).2).2) := if_neg (by rw [h]; decide)

theorem braces_bad {t : ByteArray} {s : RS} (h : (takeS t 125 (mostS t s).2).1 = false ∨ ((mostS t s).1 ≠ -1 ∧ (mostS t s).1 < (digS t s).1)) : bracesS t s = ((0, 0), failS t) := if_pos h
theorem braces_good {t : ByteArray} {s : RS} (h : ¬ ((takeS t 125 (mostS t s).2).1 = false ∨ ((mostS t s).1 ≠ -1 ∧ (mostS t s).1 < (digS t s).1))) :
    bracesS t s = (((digS t s).1, (mostS t s).1), (takeS t 125 (mostS t s).2).2) := if_neg h

set_option maxHeartbeats 1000000 in
theorem braces_any (b : Nat) (t : ByteArray) (s : RS) (v : Value) (w : World) (h : RD w b t s v) :
    Calls Try.prog 160 #[.pointer (some ⟨b, 0, none⟩)] w fun e w' =>
      e = .returned (.tuple #[.int .i64 (bracesS t s).1.1, .int .i64 (bracesS t s).1.2]) ∧ RD w' b t (bracesS t s).2 v ∧ Kept [b] w w' := by
  have bd1 := dig_bd t s
  have bd2 := most_bd t s
  have front : ∀ (x : Bool), (takeS t 44 (digS t s).2).1 = x → True := fun _ _ => trivial
  clear front
  by_cases hcl : (takeS t 125 (mostS t s).2).1 = false
  · have e2 := braces_bad (Or.inl hcl)
    rw [e2]
    clear e2
    go_enter Try.func160, Try.ntmps160
    go_wp2_with fail
    refine (digit_any b t s v _ h).mono ?_
    rintro e w1 ⟨rfl, h1, k1⟩
    go_wp2_with fail
    refine (take_any b 44 t _ v _ h1 (by omega) (by omega)).mono ?_
    rintro e w2 ⟨rfl, h2, k2⟩
    have k12 := k1.trans k2
    clear h1 k1 k2
    by_cases hm : (takeS t 44 (digS t s).2).1 = true
    · have e1 := most_true hm
      go_wp2_with fail
      refine (upper_any b t _ v _ h2).mono ?_
      rw [← e1]
      rintro e w3 ⟨rfl, h3, k3⟩
      have k13 := k12.trans k3
      clear h2 k12 k3 e1 hm
      go_wp2_with fail
      refine (take_any b 125 t _ v _ h3 (by omega) (by omega)).mono ?_
      rintro e w4 ⟨rfl, h4, k4⟩
      go_wp2_with fail
      refine (fail_any b t _ v _ h4).mono ?_
      rintro e w5 ⟨rfl, h5, k5⟩
      go_wp2
      go_ret2
      exact ⟨rfl, h5, (k13.trans k4).trans k5⟩
    · have e1 := most_false (by simpa using hm)
      have hm' : (takeS t 44 (digS t s).2).1 = false := by simpa using hm
      have e3 : (mostS t s).1 = (digS t s).1 := by rw [e1]
      rw [e1] at hcl
      go_wp2_with fail
      refine (take_any b 125 t _ v _ h2 (by omega) (by omega)).mono ?_
      rintro e w4 ⟨rfl, h4, k4⟩
      go_wp2_with fail
      refine (fail_any b t _ v _ h4).mono ?_
      rintro e w5 ⟨rfl, h5, k5⟩
      go_wp2
      go_ret2
      exact ⟨rfl, h5, (k12.trans k4).trans k5⟩
  have hcl : (takeS t 125 (mostS t s).2).1 = true := by simpa using hcl
  by_cases hm : (takeS t 44 (digS t s).2).1 = true
  · have e1 : Hid (_ = _) := most_true hm
    by_cases hn : (mostS t s).1 = -1
    · rw [braces_good (by rw [hcl]; simp [hn]), hn]
      go_enter Try.func160, Try.ntmps160
      go_wp2_with fail
      refine (digit_any b t s v _ h).mono ?_
      rintro e w1 ⟨rfl, h1, k1⟩
      go_wp2_with fail
      refine (take_any b 44 t _ v _ h1 (by omega) (by omega)).mono ?_
      rintro e w2 ⟨rfl, h2, k2⟩
      go_wp2_with fail
      refine (upper_any b t _ v _ h2).mono ?_
      rw [← e1.out]
      rintro e w3 ⟨rfl, h3, k3⟩
      go_wp2_with fail
      refine (take_any b 125 t _ v _ h3 (by omega) (by omega)).mono ?_
      rintro e w4 ⟨rfl, h4, k4⟩
      go_wp2
      go_ret2
      exact ⟨rfl, h4, ((k1.trans k2).trans k3).trans k4⟩
    by_cases hl : (mostS t s).1 < (digS t s).1
    · have hb : ((mostS t s).1 != -1) = true := by simpa using hn
      rw [braces_bad (Or.inr ⟨hn, hl⟩)]
      clear hn
      go_enter Try.func160, Try.ntmps160
      go_wp2_with fail
      refine (digit_any b t s v _ h).mono ?_
      rintro e w1 ⟨rfl, h1, k1⟩
      go_wp2_with fail
      refine (take_any b 44 t _ v _ h1 (by omega) (by omega)).mono ?_
      rintro e w2 ⟨rfl, h2, k2⟩
      go_wp2_with fail
      refine (upper_any b t _ v _ h2).mono ?_
      rw [← e1.out]
      rintro e w3 ⟨rfl, h3, k3⟩
      go_wp2_with fail
      refine (take_any b 125 t _ v _ h3 (by omega) (by omega)).mono ?_
      rintro e w4 ⟨rfl, h4, k4⟩
      go_wp2_with fail
      refine (fail_any b t _ v _ h4).mono ?_
      rintro e w5 ⟨rfl, h5, k5⟩
      go_wp2
      go_ret2
      exact ⟨rfl, h5, (((k1.trans k2).trans k3).trans k4).trans k5⟩
    · have hb : ((mostS t s).1 != -1) = true := by simpa using hn
      rw [braces_good (by rw [hcl]; simp; omega)]
      clear hn
      go_enter Try.func160, Try.ntmps160
      go_wp2_with fail
      refine (digit_any b t s v _ h).mono ?_
      rintro e w1 ⟨rfl, h1, k1⟩
      go_wp2_with fail
      refine (take_any b 44 t _ v _ h1 (by omega) (by omega)).mono ?_
      rintro e w2 ⟨rfl, h2, k2⟩
      go_wp2_with fail
      refine (upper_any b t _ v _ h2).mono ?_
      rw [← e1.out]
      rintro e w3 ⟨rfl, h3, k3⟩
      go_wp2_with fail
      refine (take_any b 125 t _ v _ h3 (by omega) (by omega)).mono ?_
      rintro e w4 ⟨rfl, h4, k4⟩
      go_wp2
      go_ret2
      exact ⟨rfl, h4, ((k1.trans k2).trans k3).trans k4⟩
  · have hm' : (takeS t 44 (digS t s).2).1 = false := by simpa using hm
    have e1 := most_false hm'
    have hb : ((digS t s).1 != -1) = true := by simp; omega
    rw [braces_good (by rw [hcl, e1]; simp), e1]
    rw [e1] at hcl
    clear e1 hm
    go_enter Try.func160, Try.ntmps160
    go_wp2_with fail
    refine (digit_any b t s v _ h).mono ?_
    rintro e w1 ⟨rfl, h1, k1⟩
    go_wp2_with fail
    refine (take_any b 44 t _ v _ h1 (by omega) (by omega)).mono ?_
    rintro e w2 ⟨rfl, h2, k2⟩
    go_wp2_with fail
    refine (take_any b 125 t _ v _ h2 (by omega) (by omega)).mono ?_
    rintro e w4 ⟨rfl, h4, k4⟩
    go_wp2
    go_ret2
    exact ⟨rfl, h4, (k1.trans k2).trans k4⟩

set_option maxHeartbeats 1000000 in
theorem repeat_any (b : Nat) (t : ByteArray) (s : RS) (v : Value) (w : World) (h : RD w b t s v) :
    Calls Try.prog 148 #[.pointer (some ⟨b, 0, none⟩)] w fun e w' =>
      e = .returned (.tuple #[.int .i64 (repeatS t s).1.1, .int .i64 (repeatS t s).1.2]) ∧ RD w' b t (repeatS t s).2 v ∧ Kept [b] w w' := by
  by_cases ha : (nextS t s).1 = 42
  · have e : repeatS t s = ((0, -1), (nextS t s).2) := if_pos ha
    rw [e]
    clear e
    go_enter Try.func148, Try.ntmps148
    go_wp2_with fail
    refine (next_any b t s v _ h).mono ?_
    rintro e w1 ⟨rfl, h1, k1⟩
    go_wp2
    go_ret2
    exact ⟨rfl, h1, k1⟩
  by_cases hb : (nextS t s).1 = 43
  · have e : repeatS t s = ((1, -1), (nextS t s).2) := by unfold repeatS; rw [if_neg ha, if_pos hb]
    rw [e]
    clear e
    go_enter Try.func148, Try.ntmps148
    go_wp2_with fail
    refine (next_any b t s v _ h).mono ?_
    rintro e w1 ⟨rfl, h1, k1⟩
    go_wp2
    go_ret2
    exact ⟨rfl, h1, k1⟩
  by_cases hc : (nextS t s).1 = 63
  · have e : repeatS t s = ((0, 1), (nextS t s).2) := by unfold repeatS; rw [if_neg ha, if_neg hb, if_pos hc]
    rw [e]
    clear e
    go_enter Try.func148, Try.ntmps148
    go_wp2_with fail
    refine (next_any b t s v _ h).mono ?_
    rintro e w1 ⟨rfl, h1, k1⟩
    go_wp2
    go_ret2
    exact ⟨rfl, h1, k1⟩
  · have e : repeatS t s = bracesS t (nextS t s).2 := by unfold repeatS; rw [if_neg ha, if_neg hb, if_neg hc]
    have ha' : ((nextS t s).1 == 42) = false := by simpa using ha
    have hb' : ((nextS t s).1 == 43) = false := by simpa using hb
    have hc' : ((nextS t s).1 == 63) = false := by simpa using hc
    rw [e]
    clear e ha hb hc
    go_enter Try.func148, Try.ntmps148
    go_wp2_with fail
    refine (next_any b t s v _ h).mono ?_
    rintro e w1 ⟨rfl, h1, k1⟩
    go_wp2_with fail
    refine (braces_any b t _ v _ h1).mono ?_
    rintro e w2 ⟨rfl, h2, k2⟩
    go_wp2
    go_ret2
    exact ⟨rfl, h2, k1.trans k2⟩

end Go.Proofs.Ytgifhgnccmnbiaa

set_option linter.unusedVariables false
set_option linter.unusedSimpArgs false
namespace Go.Proofs.Ytgifhgnccmnbiaa

/-- A node of a pattern. -/
structure AN where
  kind : Int
  its : List (Int × Int) := []
  neg : Bool := false
  left : Int := 0
  right : Int := 0
  least : Int := 0
  most : Int := 0
  size : Int

/-- No size is above 61. -/
def capN (n : AN) : AN := { n with size := if 61 < n.size then 61 else n.size }

abbrev PS := RS × List AN
def sizeAt (ns : List AN) (i : Nat) : Int := ((ns[i]?).map AN.size).getD 0
def addS (n : AN) (st : PS) : Nat × PS := (st.2.length, (st.1, st.2 ++ [capN n]))
def joinS (kind : Int) (l r : Nat) (st : PS) : Nat × PS := addS { kind := kind, left := l, right := r, size := sizeAt st.2 l + sizeAt st.2 r } st
def timesS (least most : Int) : Int := if (if most = -1 then least else most) < 1 then 1 else (if most = -1 then least else most)
def againS (p : Nat) (lm : Int × Int) (st : PS) : Nat × PS :=
  addS { kind := 6, left := p, least := lm.1, most := lm.2, size := sizeAt st.2 p * timesS lm.1 lm.2 } st
def bytesS (lo hi : Int) (st : PS) : Nat × PS := addS { kind := 1, its := [(lo, hi)], size := 1 } st

/-- All sizes lie in 0 .. 61. -/
def Sized (ns : List AN) : Prop := ∀ n, n ∈ ns → 0 ≤ n.size ∧ n.size ≤ 61
theorem sizeAt_bd {ns : List AN} (h : Sized ns) (i : Nat) : 0 ≤ sizeAt ns i ∧ sizeAt ns i ≤ 61 := by
  unfold sizeAt
  cases hi : ns[i]? with
  | none => simp
  | some n => simpa using h n (List.mem_of_getElem? hi)
theorem sized_add {n : AN} {st : PS} (h : Sized st.2) (hn : 0 ≤ n.size) : Sized (addS n st).2.2 := by
  intro m hm
  simp only [addS, List.mem_append, List.mem_singleton] at hm
  rcases hm with hm | rfl
  · exact h m hm
  · simp only [capN]; split <;> omega

/- PROGRESS: a scanning step goes on, and never back. -/
theorem next_ge {t : ByteArray} {s : RS} (h : Fits t s) : s.1 ≤ (nextS t s).2.1 := by
  unfold nextS; split
  · exact h
  · exact Nat.le_succ _
theorem next_gt {t : ByteArray} {s : RS} (h : s.1 < t.size) : s.1 < (nextS t s).2.1 := by
  unfold nextS; split
  · exact h
  · exact Nat.lt_succ_self _
theorem take_ge {t : ByteArray} {s : RS} {c : Int} : s.1 ≤ (takeS t c s).2.1 := by
  unfold takeS; split
  · exact Nat.le_succ _
  · exact Nat.le_refl _
theorem take_gt {t : ByteArray} {s : RS} {c : Int} (h : (takeS t c s).1 = true) : s.1 < (takeS t c s).2.1 := by
  unfold takeS at *; split
  · exact Nat.lt_succ_self _
  · rename_i hc; rw [if_neg hc] at h; cases h
theorem mem_ge {t : ByteArray} {s : RS} (h : Fits t s) : s.1 ≤ (memS t s).2.1 := by
  unfold memS; split
  · exact Nat.le_trans (next_ge h) (next_ge (fits_next h))
  · exact next_ge h
theorem mem_gt {t : ByteArray} {s : RS} (h : s.1 < t.size) : s.1 < (memS t s).2.1 := by
  have hf : Fits t s := Nat.le_of_lt h
  unfold memS; split
  · exact Nat.lt_of_lt_of_le (next_gt h) (next_ge (fits_next hf))
  · exact next_gt h
theorem high_gt {t : ByteArray} {s : RS} (h : s.1 < t.size) : s.1 < (highS t s).2.1 := by
  have h1 := mem_gt h
  unfold highS; split
  · rename_i hq
    have := mem_ge (t := t) (s := ((memS t s).2.1 + 1, (memS t s).2.2)) (fits_sec hq)
    simp only [] at this
    omega
  · exact h1
theorem item_gt {t : ByteArray} {s : RS} (h : s.1 < t.size) : s.1 < (itemS t s).2.1 := by
  unfold itemS; simp only []; split
  · exact h
  · exact high_gt h
theorem itemQ_lt {t : ByteArray} {s : RS} (h : itemQ t s = true) : s.1 < t.size := by
  simp only [itemQ, Bool.and_eq_true, bne_iff_ne] at h
  have := h.1
  rw [Ne, pk_none] at this
  omega
theorem dig_ge {t : ByteArray} {s : RS} (h : Fits t s) : s.1 ≤ (digS t s).2.1 := by
  unfold digS; split
  · exact h
  · exact next_ge h
theorem up_ge {t : ByteArray} {s : RS} (h : Fits t s) : s.1 ≤ (upS t s).2.1 := by
  unfold upS; split
  · exact Nat.le_refl _
  · exact dig_ge h
theorem most_ge {t : ByteArray} {s : RS} (h : Fits t s) : s.1 ≤ (mostS t s).2.1 := by
  have h1 := dig_ge h
  have h2 := take_ge (t := t) (c := 44) (s := (digS t s).2)
  unfold mostS; split
  · exact Nat.le_trans h1 (Nat.le_trans h2 (up_ge (fits_take (by omega) (fits_dig h))))
  · exact Nat.le_trans h1 h2
theorem braces_ge {t : ByteArray} {s : RS} (h : Fits t s) : s.1 ≤ (bracesS t s).2.1 := by
  unfold bracesS; split
  · exact h
  · exact Nat.le_trans (most_ge h) take_ge
theorem repeat_gt {t : ByteArray} {s : RS} (h : s.1 < t.size) : s.1 < (repeatS t s).2.1 := by
  have h1 := next_gt h
  have h2 := braces_ge (t := t) (s := (nextS t s).2) (fits_next (Nat.le_of_lt h))
  unfold repeatS
  repeat' split
  all_goals first | exact h1 | exact Nat.lt_of_lt_of_le h1 h2
theorem repS_lt {t : ByteArray} {s : RS} (h : repS t s = true) : s.1 < t.size := by
  refine pk_some ?_
  simp only [repS, Bool.or_eq_true, beq_iff_eq] at h
  omega
theorem endS_lt {t : ByteArray} {s : RS} (h : endS t s = false) : s.1 < t.size := by
  simp only [endS, Bool.or_eq_false_iff, beq_eq_false_iff_ne] at h
  have := h.1.1
  rw [Ne, pk_none] at this
  omega

/- THE ITEMS OF A LIST. -/
def itemsF (t : ByteArray) : Nat → RS → List (Int × Int) → List (Int × Int) × RS
  | 0, s, acc => (acc, s)
  | f + 1, s, acc => if itemQ t s = true then itemsF t f (itemS t s).2 (acc ++ [(itemS t s).1]) else (acc, s)
theorem itemsF_more (t : ByteArray) : ∀ (f g : Nat) (s : RS) (acc : List (Int × Int)), t.size - s.1 ≤ f → t.size - s.1 ≤ g → itemsF t f s acc = itemsF t g s acc
  | 0, 0, _, _, _, _ => rfl
  | 0, g + 1, s, acc, h, _ => by
    rw [itemsF, itemsF, if_neg]
    intro hq; have := itemQ_lt hq; omega
  | f + 1, 0, s, acc, _, h => by
    rw [itemsF, itemsF, if_neg]
    intro hq; have := itemQ_lt hq; omega
  | f + 1, g + 1, s, acc, h1, h2 => by
    rw [itemsF, itemsF]
    split
    · rename_i hq
      have := item_gt (itemQ_lt hq)
      have := itemQ_lt hq
      exact itemsF_more t f g _ _ (by omega) (by omega)
    · rfl
def itemsS (t : ByteArray) (s : RS) (acc : List (Int × Int)) : List (Int × Int) × RS := itemsF t (t.size - s.1) s acc
theorem itemsS_on {t : ByteArray} {s : RS} {acc : List (Int × Int)} (h : itemQ t s = true) : itemsS t s acc = itemsS t (itemS t s).2 (acc ++ [(itemS t s).1]) := by
  have h1 := itemQ_lt h
  have h2 := item_gt h1
  unfold itemsS
  obtain ⟨f, hf⟩ : ∃ f, t.size - s.1 = f + 1 := ⟨t.size - s.1 - 1, by omega⟩
  rw [hf, itemsF, if_pos h]
  exact itemsF_more t _ _ _ _ (by omega) (Nat.le_refl _)
theorem itemsS_off {t : ByteArray} {s : RS} {acc : List (Int × Int)} (h : itemQ t s = false) : itemsS t s acc = (acc, s) := by
  unfold itemsS
  cases t.size - s.1 with
  | zero => rfl
  | succ f => rw [itemsF, if_neg (by rw [h]; decide)]

theorem itemsF_ge (t : ByteArray) : ∀ (f : Nat) (s : RS) (acc : List (Int × Int)), s.1 ≤ (itemsF t f s acc).2.1
  | 0, s, _ => Nat.le_refl _
  | f + 1, s, acc => by
    rw [itemsF]
    split
    · rename_i hq; exact Nat.le_trans (Nat.le_of_lt (item_gt (itemQ_lt hq))) (itemsF_ge t f _ _)
    · exact Nat.le_refl _
theorem itemsS_ge {t : ByteArray} {s : RS} {acc : List (Int × Int)} (h : Fits t s) : s.1 ≤ (itemsS t s acc).2.1 := itemsF_ge t _ s acc

/-- A list, behind its [. -/
def listS (t : ByteArray) (st : PS) : Nat × PS :=
  let a := takeS t 94 st.1
  let i := itemsS t a.2 []
  let c := takeS t 93 i.2
  addS { kind := 1, its := i.1, neg := a.1, size := 1 } (if c.1 = false ∨ i.1.length = 0 then failS t else c.2, st.2)

end Go.Proofs.Ytgifhgnccmnbiaa
