/- Packed files, plainly: what rules stand for, what is told of a part of a text on both sides. No Go in it. -/
import Derived.Test.YtgifhgnccmnbiaaRdPure
set_option linter.unusedVariables false
set_option linter.unusedSimpArgs false
namespace Go.Proofs.Ytgifhgnccmnbiaa

/-- Lengths are cut short at one above 2 to the 40. -/
def capL (n : Nat) : Nat := if 1099511627777 < n then 1099511627777 else n
theorem capL_le (n : Nat) : capL n ≤ 1099511627777 := by unfold capL; split <;> omega
theorem capL_cases (n : Nat) : (n ≤ 1099511627777 ∧ capL n = n) ∨ (1099511627777 < n ∧ capL n = 1099511627777) := by
  unfold capL
  by_cases h : 1099511627777 < n
  · rw [if_pos h]; exact Or.inr ⟨h, rfl⟩
  · rw [if_neg h]; exact Or.inl ⟨by omega, rfl⟩
theorem capL_add (a b : Nat) : capL (capL a + capL b) = capL (a + b) := by
  have h1 := capL_cases a
  have h2 := capL_cases b
  have h3 := capL_cases (a + b)
  have h4 := capL_cases (capL a + capL b)
  omega
theorem capL_zero {n : Nat} : capL n = 0 ↔ n = 0 := by unfold capL; split <;> omega
theorem capL_small {n : Nat} (h : capL n ≤ 1099511627776) : capL n = n := by unfold capL at h ⊢; split at h <;> (split <;> omega)
theorem capL_of {n : Nat} (h : n ≤ 1099511627777) : capL n = n := by unfold capL; rw [if_neg (by omega)]

/-- What is told of a part of a text. -/
structure PT where
  len : Nat := 0
  nl : Nat := 0
  first : Nat := 0
  last : Nat := 0
deriving DecidableEq
def nls (t : List Nat) : Nat := (t.filter (· == 10)).length
def ptOf (t : List Nat) : PT := if t = [] then {} else { len := capL t.length, nl := capL (nls t), first := t.headD 0, last := t.getLastD 0 }
def joinP (a b : PT) : PT := if a.len = 0 then b else if b.len = 0 then a else { len := capL (a.len + b.len), nl := capL (a.nl + b.nl), first := a.first, last := b.last }
def byteP (c : Nat) : PT := { len := 1, nl := if c = 10 then 1 else 0, first := c, last := c }
theorem nls_app (a b : List Nat) : nls (a ++ b) = nls a + nls b := by simp [nls, List.filter_append]
theorem nls_le (t : List Nat) : nls t ≤ t.length := List.length_filter_le _ _
theorem ptOf_len (t : List Nat) : (ptOf t).len = capL t.length := by
  unfold ptOf; split
  · rename_i h; subst h; rfl
  · rfl
theorem ptOf_nl (t : List Nat) : (ptOf t).nl = capL (nls t) := by
  unfold ptOf; split
  · rename_i h; subst h; rfl
  · rfl
theorem ptOf_nil : ptOf [] = {} := rfl
theorem ptOf_one (c : Nat) : ptOf [c] = byteP c := by
  unfold ptOf byteP nls
  rw [if_neg (by simp)]
  by_cases h : c = 10
  · subst h; rfl
  · simp [h, capL]
theorem join_ptOf (a b : List Nat) : joinP (ptOf a) (ptOf b) = ptOf (a ++ b) := by
  unfold joinP
  by_cases ha : a = []
  · subst ha; rw [if_pos (show (ptOf []).len = 0 from rfl)]; rfl
  · have h1 : (ptOf a).len ≠ 0 := by rw [ptOf_len, Ne, capL_zero]; intro h; exact ha (List.eq_nil_of_length_eq_zero h)
    rw [if_neg h1]
    by_cases hb : b = []
    · subst hb; rw [if_pos (show (ptOf []).len = 0 from rfl), List.append_nil]
    · have h2 : (ptOf b).len ≠ 0 := by rw [ptOf_len, Ne, capL_zero]; intro h; exact hb (List.eq_nil_of_length_eq_zero h)
      rw [if_neg h2, ptOf_len, ptOf_len, ptOf_nl, ptOf_nl, capL_add, capL_add]
      unfold ptOf
      rw [if_neg ha, if_neg hb, if_neg (by simp [ha])]
      simp only [PT.mk.injEq]
      refine ⟨by rw [List.length_append], by rw [nls_app], ?_, ?_⟩
      · cases a with
        | nil => exact absurd rfl ha
        | cons x l => rfl
      · cases b with
        | nil => exact absurd rfl hb
        | cons x l => rw [List.getLastD_eq_getLast?, List.getLastD_eq_getLast?, List.getLast?_append]; rw [List.getLast?_eq_some_getLast (by simp)]; rfl

/-- A rule as it is kept: its two symbols, and what is told of its text. -/
structure RU where
  l : Nat
  r : Nat
  pt : PT
def partAt (rs : List RU) (s : Nat) : PT := if s < 256 then byteP s else ((rs[s - 256]?).map RU.pt).getD {}
def ruleP (rs : List RU) (l r : Nat) : RU := { l := l, r := r, pt := joinP (partAt rs l) (partAt rs r) }

/-- What a symbol stands for, where the rules stand for these texts. -/
def symT (T : List (List Nat)) (s : Nat) : List Nat := if s < 256 then [s] else T.getD (s - 256) []
theorem symT_app {T U : List (List Nat)} {s : Nat} (h : s < 256 + T.length) : symT (T ++ U) s = symT T s := by
  unfold symT
  split
  · rfl
  · simp only [List.getD]
    rw [List.getElem?_append_left (by omega)]
theorem symT_new {T : List (List Nat)} {x : List Nat} : symT (T ++ [x]) (256 + T.length) = x := by
  unfold symT
  rw [if_neg (by omega), Nat.add_sub_cancel_left]
  simp [List.getD]
/-- The rules' parts are those of their texts. -/
structure Sound (rs : List RU) (T : List (List Nat)) : Prop where
  len : rs.length = T.length
  rule : ∀ i x, rs[i]? = some x → x.l < 256 + i ∧ x.r < 256 + i ∧ T.getD i [] = symT T x.l ++ symT T x.r ∧ x.pt = ptOf (T.getD i [])
  full : ∀ i, i < T.length → T.getD i [] ≠ []
theorem Sound.nil : Sound [] [] := ⟨rfl, fun i x h => by simp at h, fun i h => by simp at h⟩
theorem Sound.part {rs : List RU} {T : List (List Nat)} (h : Sound rs T) {s : Nat} (hs : s < 256 + rs.length) : partAt rs s = ptOf (symT T s) := by
  unfold partAt symT
  by_cases h1 : s < 256
  · rw [if_pos h1, if_pos h1, ptOf_one]
  · rw [if_neg h1, if_neg h1]
    obtain ⟨x, hx⟩ : ∃ x, rs[s - 256]? = some x := ⟨_, List.getElem?_eq_getElem (by omega)⟩
    rw [hx]
    exact (h.rule _ _ hx).2.2.2
theorem Sound.ne {rs : List RU} {T : List (List Nat)} (h : Sound rs T) {s : Nat} (hs : s < 256 + rs.length) : symT T s ≠ [] := by
  unfold symT
  split
  · simp
  · exact h.full _ (by rw [← h.len]; omega)
theorem Sound.push {rs : List RU} {T : List (List Nat)} (h : Sound rs T) {l r : Nat} (hl : l < 256 + rs.length) (hr : r < 256 + rs.length) :
    Sound (rs ++ [ruleP rs l r]) (T ++ [symT T l ++ symT T r]) := by
  have hlen := h.len
  refine ⟨by simp [hlen], fun i x hx => ?_, fun i hi => ?_⟩
  · by_cases hi : i < rs.length
    · rw [List.getElem?_append_left hi] at hx
      obtain ⟨a, b, c, d⟩ := h.rule i x hx
      have e : (T ++ [symT T l ++ symT T r]).getD i [] = T.getD i [] := by simp only [List.getD]; rw [List.getElem?_append_left (by omega)]
      rw [e, symT_app (by omega), symT_app (by omega)]
      exact ⟨a, b, c, d⟩
    · have hi2 : i = rs.length := by
        have := (List.getElem?_eq_some_iff.1 hx).1
        simp at this; omega
      subst hi2
      rw [List.getElem?_append_right (Nat.le_refl _), Nat.sub_self] at hx
      simp at hx
      subst hx
      have e : (T ++ [symT T l ++ symT T r]).getD rs.length [] = symT T l ++ symT T r := by rw [hlen]; simp [List.getD]
      rw [e]
      simp only [ruleP]
      rw [symT_app (by omega), symT_app (by omega)]
      exact ⟨hl, hr, rfl, by rw [h.part hl, h.part hr, join_ptOf]⟩
  · simp at hi
    by_cases hi2 : i < T.length
    · have e : (T ++ [symT T l ++ symT T r]).getD i [] = T.getD i [] := by simp only [List.getD]; rw [List.getElem?_append_left hi2]
      rw [e]; exact h.full i hi2
    · have : i = T.length := by omega
      subst this
      have e : (T ++ [symT T l ++ symT T r]).getD T.length [] = symT T l ++ symT T r := by simp [List.getD]
      rw [e]
      simp [h.ne hl]

/-- The document's: bytes, newlines, bytes behind the last newline. -/
structure PI where
  long : Nat := 0
  ends : Nat := 0
  tail : Nat := 0
def tailL (t : List Nat) : Nat := (t.reverse.takeWhile (· != 10)).length
theorem tailL_le (t : List Nat) : tailL t ≤ t.length := by
  unfold tailL
  have h := (List.takeWhile_sublist (l := t.reverse) (· != 10)).length_le
  simpa using h
theorem takeWhile_all {l : List Nat} (h : nls l = 0) : l.takeWhile (· != 10) = l := by
  induction l with
  | nil => rfl
  | cons x l ih =>
    unfold nls at h ih
    by_cases hx : x = 10
    · subst hx; simp at h
    · rw [List.takeWhile_cons_of_pos (by simpa using hx), ih (by simpa [hx] using h)]
theorem nls_rev (l : List Nat) : nls l.reverse = nls l := by unfold nls; rw [List.filter_reverse, List.length_reverse]
theorem takeWhile_app_stop {l m : List Nat} (h : nls l ≠ 0) : (l ++ m).takeWhile (· != 10) = l.takeWhile (· != 10) := by
  induction l with
  | nil => exact absurd rfl h
  | cons x l ih =>
    by_cases hx : x = 10
    · subst hx; simp
    · rw [List.cons_append, List.takeWhile_cons_of_pos (by simpa using hx), List.takeWhile_cons_of_pos (by simpa using hx), ih (by unfold nls at h ⊢; simpa [hx] using h)]
theorem tailL_app (a b : List Nat) : tailL (a ++ b) = if nls b = 0 then tailL a + b.length else tailL b := by
  unfold tailL
  rw [List.reverse_append]
  split
  · rename_i h
    rw [List.takeWhile_append_of_pos (by
      intro x hx
      have : b.reverse.takeWhile (· != 10) = b.reverse := takeWhile_all (by rw [nls_rev]; exact h)
      rw [← this] at hx
      have h2 := List.all_takeWhile (p := (· != 10)) (l := b.reverse)
      rw [List.all_eq_true] at h2
      exact h2 x hx)]
    simp; omega
  · rename_i h
    rw [takeWhile_app_stop (by rw [nls_rev]; exact h)]
def piOf (t : List Nat) : PI := { long := capL t.length, ends := capL (nls t), tail := capL (tailL t) }
def capS (a b : Nat) : Nat := if 1099511627776 < a + b then 1099511627777 else a + b
theorem capS_eq (a b : Nat) : capS a b = capL (a + b) := by
  have h1 := capL_cases (a + b)
  unfold capS
  by_cases h : 1099511627776 < a + b
  · rw [if_pos h]; omega
  · rw [if_neg h]; omega
def joinedP (a b : PI) : PI := { long := capS a.long b.long, ends := capS a.ends b.ends, tail := if b.ends = 0 then capS a.tail b.long else b.tail }
theorem joined_piOf (a b : List Nat) : joinedP (piOf a) (piOf b) = piOf (a ++ b) := by
  unfold joinedP piOf
  simp only [PI.mk.injEq]
  rw [capS_eq, capS_eq, capS_eq, capL_add, capL_add, capL_add, List.length_append, nls_app, tailL_app]
  refine ⟨rfl, rfl, ?_⟩
  by_cases h : nls b = 0
  · rw [if_pos (capL_zero.2 h), if_pos h]
  · rw [if_neg (fun hc => h (capL_zero.1 hc)), if_neg h]
def sizeP (ps : List PI) (s : Nat) : PI := if s = 10 then { long := 1, ends := 1 } else if s < 256 then { long := 1, tail := 1 } else ps.getD (s - 256) {}
theorem size_one (c : Nat) : (if c = 10 then ({ long := 1, ends := 1 } : PI) else { long := 1, tail := 1 }) = piOf [c] := by
  unfold piOf
  by_cases h : c = 10
  · subst h; rfl
  · rw [if_neg h]; simp [nls, tailL, h, capL]

/-- How many lines. -/
def linesS (p : PT) : Nat := if 0 < p.len ∧ p.last ≠ 10 then p.nl + 1 else p.nl
def linesR (p : PI) : Nat := if 0 < p.tail then p.ends + 1 else p.ends
theorem tail_last {t : List Nat} (h : t ≠ []) : 0 < tailL t ↔ t.getLastD 0 ≠ 10 := by
  obtain ⟨l, x, rfl⟩ : ∃ l x, t = l ++ [x] := ⟨t.dropLast, t.getLast h, (List.dropLast_concat_getLast h).symm⟩
  unfold tailL
  rw [List.reverse_append]
  simp only [List.reverse_cons, List.reverse_nil, List.nil_append, List.singleton_append, List.getLastD_concat]
  by_cases hx : x = 10
  · subst hx; simp
  · rw [List.takeWhile_cons_of_pos (by simpa using hx)]; simp [hx]
theorem lines_same (t : List Nat) : linesS (ptOf t) = linesR (piOf t) := by
  unfold linesS linesR
  rw [ptOf_len, ptOf_nl]
  show _ = if 0 < capL (tailL t) then capL (nls t) + 1 else capL (nls t)
  by_cases h : t = []
  · subst h; rfl
  · have h1 : 0 < capL t.length := by
      have : capL t.length ≠ 0 := fun hc => h (List.eq_nil_of_length_eq_zero (capL_zero.1 hc))
      omega
    have h2 : (ptOf t).last = t.getLastD 0 := by unfold ptOf; rw [if_neg h]
    have h3 : (0 < capL (tailL t)) ↔ 0 < tailL t := by
      have := @capL_zero (tailL t); omega
    rw [h2]
    by_cases h4 : t.getLastD 0 = 10
    · rw [if_neg (fun hc => hc.2 h4), if_neg (fun hc => ((tail_last h).1 (h3.1 hc)) h4)]
    · rw [if_pos ⟨h1, h4⟩, if_pos (h3.2 ((tail_last h).2 h4))]

end Go.Proofs.Ytgifhgnccmnbiaa
