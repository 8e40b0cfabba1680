/- Pairs counted and replaced, plainly. No Go in it. -/
import Derived.Test.YtgifhgnccmnbiaaZwBits
set_option linter.unusedVariables false
set_option linter.unusedSimpArgs false
namespace Go.Proofs.Ytgifhgnccmnbiaa

/-- How often a pair is met, going along. -/
def metL (a b : Nat) : List Nat → Nat
  | x :: y :: r => if x = a ∧ y = b then metL a b r + 1 else metL a b (y :: r)
  | _ => 0
def replL (a b s : Nat) : List Nat → List Nat
  | x :: y :: r => if x = a ∧ y = b then s :: replL a b s r else x :: replL a b s (y :: r)
  | l => l
theorem metL_nil (a b : Nat) : metL a b [] = 0 := by rw [metL]; intro _ _ _ h; cases h
theorem metL_one (a b x : Nat) : metL a b [x] = 0 := by rw [metL]; intro _ _ _ h; cases h
theorem metL_two (a b x y : Nat) (r : List Nat) : metL a b (x :: y :: r) = if x = a ∧ y = b then metL a b r + 1 else metL a b (y :: r) := by rw [metL]
theorem metL_tail (a b : Nat) : ∀ (n : Nat) (l : List Nat), l.length ≤ n → ∀ x, metL a b l ≤ metL a b (x :: l)
  | n, [], _, x => by rw [metL_nil]; exact Nat.zero_le _
  | 0, y :: l, h, _ => by simp at h
  | n + 1, y :: r, h, x => by
    have hr : r.length ≤ n := by simpa using h
    rw [metL_two]
    by_cases hc : x = a ∧ y = b
    · rw [if_pos hc]
      cases r with
      | nil => rw [metL_one]; omega
      | cons z r' =>
        rw [metL_two]
        have hr' : r'.length ≤ n := by simp at hr; omega
        have h1 := metL_tail a b n r' hr' z
        by_cases hd : y = a ∧ z = b
        · rw [if_pos hd]; omega
        · rw [if_neg hd]; omega
    · rw [if_neg hc]; exact Nat.le_refl _
theorem metL_drop (a b : Nat) (l : List Nat) : ∀ i, metL a b (l.drop i) ≤ metL a b l
  | 0 => by simp
  | i + 1 => by
    by_cases h : i < l.length
    · have e : l.drop i = l[i] :: l.drop (i + 1) := List.drop_eq_getElem_cons h
      have h1 := metL_tail a b _ (l.drop (i + 1)) (Nat.le_refl _) l[i]
      rw [← e] at h1
      exact Nat.le_trans h1 (metL_drop a b l i)
    · rw [List.drop_eq_nil_of_le (by omega), metL_nil]; exact Nat.zero_le _
/-- Ahead of the first one nothing is counted. -/
theorem metL_first (a b : Nat) (l : List Nat) : ∀ i, (∀ j, j < i → ¬ (l.getD j 0 = a ∧ j + 1 < l.length ∧ l.getD (j + 1) 0 = b)) → metL a b (l.drop i) = metL a b l
  | 0, _ => by simp
  | i + 1, h => by
    rw [← metL_first a b l i (fun j hj => h j (by omega))]
    by_cases h1 : i + 1 < l.length
    · have e : l.drop i = l[i] :: l[i + 1] :: l.drop (i + 2) := by rw [List.drop_eq_getElem_cons (by omega), List.drop_eq_getElem_cons h1]
      have e2 : l.drop (i + 1) = l[i + 1] :: l.drop (i + 2) := List.drop_eq_getElem_cons h1
      rw [e, e2, metL_two, if_neg]
      intro hc
      have g1 : l.getD i 0 = l[i] := by simp [List.getD, (by omega : i < l.length)]
      have g2 : l.getD (i + 1) 0 = l[i + 1] := by simp [List.getD, h1]
      exact h i (by omega) ⟨by rw [g1]; exact hc.1, h1, by rw [g2]; exact hc.2⟩
    · have e2 : l.drop (i + 1) = [] := List.drop_eq_nil_of_le (by omega)
      rw [e2, metL_nil]
      by_cases h2 : i < l.length
      · rw [List.drop_eq_getElem_cons h2, e2, metL_one]
      · rw [List.drop_eq_nil_of_le (by omega), metL_nil]

/-- A pair and how often: is it taken ahead of another one? -/
structure Cand where
  n : Nat
  a : Nat
  b : Nat
def better (p q : Cand) : Prop := q.n < p.n ∨ (p.n = q.n ∧ (p.a < q.a ∨ (p.a = q.a ∧ p.b < q.b)))
instance (p q : Cand) : Decidable (better p q) := by unfold better; infer_instance
theorem better_total {p q : Cand} (h1 : ¬ better p q) (h2 : ¬ better q p) : p = q := by
  unfold better at h1 h2
  obtain ⟨n, a, b⟩ := p
  obtain ⟨m, c, d⟩ := q
  simp only [] at h1 h2
  have e1 : n = m := by omega
  have e2 : a = c := by omega
  have e3 : b = d := by omega
  subst e1 e2 e3; rfl
theorem better_trans {p q r : Cand} (h1 : better p q) (h2 : ¬ better r q) : better p r := by
  unfold better at *; omega
theorem not_better_trans {p q r : Cand} (h1 : ¬ better p q) (h2 : ¬ better q r) : ¬ better p r := by
  unfold better at *; omega
def bestQ (c : Nat → Cand) : Nat → Cand
  | 0 => ⟨0, 0, 0⟩
  | i + 1 => if better (c i) (bestQ c i) then c i else bestQ c i
theorem bestQ_max (c : Nat → Cand) : ∀ n, (bestQ c n = ⟨0, 0, 0⟩ ∨ ∃ i, i < n ∧ bestQ c n = c i) ∧ (¬ better ⟨0, 0, 0⟩ (bestQ c n)) ∧ ∀ i, i < n → ¬ better (c i) (bestQ c n)
  | 0 => ⟨Or.inl rfl, by unfold bestQ better; simp, fun i hi => by omega⟩
  | n + 1 => by
    obtain ⟨h1, h2, h3⟩ := bestQ_max c n
    by_cases hb : better (c n) (bestQ c n)
    · have e : bestQ c (n + 1) = c n := by rw [bestQ, if_pos hb]
      rw [e]
      refine ⟨Or.inr ⟨n, by omega, rfl⟩, ?_, fun i hi => ?_⟩
      · intro hc; exact h2 (by unfold better at *; omega)
      · by_cases hin : i = n
        · subst hin; unfold better; omega
        · have := h3 i (by omega)
          intro hc; exact this (by unfold better at *; omega)
    · have e : bestQ c (n + 1) = bestQ c n := by rw [bestQ, if_neg hb]
      rw [e]
      refine ⟨?_, h2, fun i hi => ?_⟩
      · rcases h1 with h1 | ⟨i, hi, h1⟩
        · exact Or.inl h1
        · exact Or.inr ⟨i, by omega, h1⟩
      · by_cases hin : i = n
        · subst hin; exact hb
        · exact h3 i (by omega)
/-- The document's count of the pair at a place, and the code's, from there on. -/
def candD (l : List Nat) (i : Nat) : Cand := ⟨metL (l.getD i 0) (l.getD (i + 1) 0) l, l.getD i 0, l.getD (i + 1) 0⟩
def candC (l : List Nat) (i : Nat) : Cand := ⟨metL (l.getD i 0) (l.getD (i + 1) 0) (l.drop i), l.getD i 0, l.getD (i + 1) 0⟩
theorem cand_le (l : List Nat) (i : Nat) : ¬ better (candC l i) (candD l i) := by
  have := metL_drop (l.getD i 0) (l.getD (i + 1) 0) l i
  unfold better candC candD; simp only []; omega
/-- A pair's first place has the whole count. -/
theorem cand_first (l : List Nat) : ∀ (k i : Nat), i ≤ k → i + 1 < l.length → ∃ j, j ≤ i ∧ candC l j = candD l i := by
  intro k
  induction k with
  | zero =>
    intro i hi h
    have : i = 0 := by omega
    subst this
    exact ⟨0, Nat.le_refl _, by unfold candC candD; simp⟩
  | succ k ih =>
    intro i hi h
    by_cases hex : ∃ j, j < i ∧ l.getD j 0 = l.getD i 0 ∧ l.getD (j + 1) 0 = l.getD (i + 1) 0
    · obtain ⟨j, hj, e1, e2⟩ := hex
      obtain ⟨j', hj', e⟩ := ih j (by omega) (by omega)
      refine ⟨j', by omega, ?_⟩
      rw [e]
      unfold candD
      rw [e1, e2]
    · refine ⟨i, Nat.le_refl _, ?_⟩
      unfold candC candD
      rw [metL_first _ _ l i (fun j hj hc => hex ⟨j, hj, hc.1, hc.2.2⟩)]
theorem best_same (l : List Nat) : bestQ (candC l) (l.length - 1) = bestQ (candD l) (l.length - 1) := by
  obtain ⟨c1, c2, c3⟩ := bestQ_max (candC l) (l.length - 1)
  obtain ⟨d1, d2, d3⟩ := bestQ_max (candD l) (l.length - 1)
  refine better_total ?_ ?_
  · rcases c1 with e | ⟨i, hi, e⟩
    · rw [e]; exact d2
    · rw [e]; exact not_better_trans (cand_le l i) (d3 i hi)
  · rcases d1 with e | ⟨i, hi, e⟩
    · rw [e]; exact c2
    · obtain ⟨j, hj, e2⟩ := cand_first l i i (Nat.le_refl _) (by omega)
      rw [e, ← e2]; exact c3 j (by omega)

end Go.Proofs.Ytgifhgnccmnbiaa
