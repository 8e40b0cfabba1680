/- Files of rules: both sides read the same. No Go in it. -/
import Derived.Test.YtgifhgnccmnbiaaRfShape
set_option linter.unusedVariables false
set_option linter.unusedSimpArgs false
namespace Go.Proofs.Ytgifhgnccmnbiaa
open Go.RowKit Go.IntWalk

theorem prI_of {f : ByteArray} {q : Nat} (h : q + 2 ≤ f.size) : prI f q = ((bt f q + 256 * bt f (q + 1) : Nat) : Int) := by unfold prI; rw [if_pos h]; omega
theorem num2 {f : ByteArray} {q : Nat} (h : q + 2 ≤ f.size) : numG f (q, false) 2 = (bt f q + 256 * bt f (q + 1), (q + 2, false)) := by
  have e1 : nextG f (q, false) = (bt f q, (q + 1, false)) := by unfold nextG; rw [if_pos (by show q < _; omega)]
  have e2 : nextG f (q + 1, false) = (bt f (q + 1), (q + 2, false)) := by unfold nextG; rw [if_pos (by show q + 1 < _; omega)]
  simp only [numG, e1, e2, Nat.zero_add, Nat.pow_zero, Nat.mul_one, Nat.pow_one]
  rw [Nat.mul_comm 256]
theorem num2_bad {f : ByteArray} {q : Nat} (h : ¬ q + 2 ≤ f.size) : (numG f (q, false) 2).2.2 = true := by
  show (nextG f (nextG f (q, false)).2).2.2 = true
  by_cases h1 : q < f.size
  · have e1 : nextG f (q, false) = (bt f q, (q + 1, false)) := by unfold nextG; rw [if_pos h1]
    rw [e1]
    unfold nextG; rw [if_neg (by show ¬ q + 1 < _; omega)]
  · have e1 : nextG f (q, false) = (0, (q, true)) := by unfold nextG; rw [if_neg h1]
    rw [e1]
    exact nextG_bad rfl
/-- The number at a place is there, and no greater than so many. -/
def Ok2 (f : ByteArray) (m q : Nat) : Prop := q + 2 ≤ f.size ∧ prI f q ≤ (m : Int)
theorem count2_of {f : ByteArray} {m q : Nat} (h : Ok2 f m q) : countG f 2 m (q, false) = ((prI f q).toNat, (q + 2, false)) := by
  obtain ⟨h1, h2⟩ := h
  rw [prI_of h1] at h2 ⊢
  unfold countG
  rw [num2 h1, if_neg (by simp only []; omega)]
  rfl
theorem count2_good {f : ByteArray} {m q : Nat} (h : (countG f 2 m (q, false)).2.2 = false) : Ok2 f m q := by
  by_cases h1 : q + 2 ≤ f.size
  · refine ⟨h1, ?_⟩
    unfold countG at h
    rw [num2 h1] at h
    split at h
    · cases h
    · rename_i h2
      rw [prI_of h1]
      simp only [] at h2
      omega
  · unfold countG at h
    split at h
    · cases h
    · rw [num2_bad h1] at h; cases h
theorem count1_of {f : ByteArray} (h : 3 ≤ f.size) (h2 : bt f 2 ≤ 100) : sgR f = (bt f 2, (3, false)) := by
  have e1 : nextG f (2, false) = (bt f 2, (3, false)) := by unfold nextG; rw [if_pos (by show 2 < _; omega)]
  unfold sgR countG
  simp only [numG, e1, Nat.zero_add, Nat.pow_zero, Nat.mul_one]
  rw [if_neg (by omega)]
theorem count1_good {f : ByteArray} (h : (sgR f).2.2 = false) : 3 ≤ f.size ∧ bt f 2 ≤ 100 := by
  unfold sgR countG at h
  by_cases h1 : 3 ≤ f.size
  · have e1 : nextG f (2, false) = (bt f 2, (3, false)) := by unfold nextG; rw [if_pos (by show 2 < _; omega)]
    simp only [numG, e1, Nat.zero_add, Nat.pow_zero, Nat.mul_one] at h
    split at h
    · cases h
    · exact ⟨h1, by omega⟩
  · have e1 : nextG f (2, false) = (0, (2, true)) := by unfold nextG; rw [if_neg (by show ¬ 2 < _; omega)]
    simp only [numG, e1] at h
    split at h <;> cases h

def OkRule (f : ByteArray) (k : Nat) : Prop := Ok2 f (255 + k) (3 + 4 * k) ∧ Ok2 f (255 + k) (5 + 4 * k)
def gRu (f : ByteArray) : Nat → List RU
  | 0 => []
  | k + 1 => gRu f k ++ [ruleP (gRu f k) (gA f k) (gB f k)]
theorem gRu_len (f : ByteArray) : ∀ k, (gRu f k).length = k
  | 0 => rfl
  | k + 1 => by show (gRu f k ++ _).length = _; rw [List.length_append, gRu_len f k]; rfl
theorem ru_of {f : ByteArray} : ∀ i, (∀ k, k < i → OkRule f k) → ruG f (3, false) i = (gRu f i, (3 + 4 * i, false))
  | 0, _ => rfl
  | i + 1, h => by
    have ih := ru_of i (fun k hk => h k (by omega))
    obtain ⟨h1, h2⟩ := h i (by omega)
    have e1 := count2_of h1
    have e2 := count2_of h2
    have hq : 3 + 4 * i + 2 = 5 + 4 * i := by omega
    rw [hq] at e1
    simp only [ruG, ih, e1, e2]
    rw [show 5 + 4 * i + 2 = 3 + 4 * (i + 1) by omega]
    rfl
theorem ru_good {f : ByteArray} : ∀ i, (ruG f (3, false) i).2.2 = false → ∀ k, k < i → OkRule f k
  | 0, _, k, hk => by omega
  | i + 1, h, k, hk => by
    have hi : (ruG f (3, false) i).2.2 = false := by
      cases hx : (ruG f (3, false) i).2.2 with
      | false => rfl
      | true => have := ruG_bad hx 1; rw [this] at h; cases h
    have ih := ru_good i hi
    by_cases hki : k < i
    · exact ih k hki
    · have : k = i := by omega
      subst this
      have e := ru_of k ih
      simp only [ruG, e] at h
      have ha : (countG f 2 (255 + k) (3 + 4 * k, false)).2.2 = false := by
        cases hx : (countG f 2 (255 + k) (3 + 4 * k, false)).2.2 with
        | false => rfl
        | true => have := countG_bad (f := f) (n := 2) (m := 255 + k) hx; rw [this] at h; cases h
      have h1 := count2_good ha
      rw [count2_of h1] at h
      have hq : 3 + 4 * k + 2 = 5 + 4 * k := by omega
      simp only [hq] at h
      exact ⟨h1, count2_good h⟩
theorem sy_of {f : ByteArray} {m q : Nat} : ∀ i, (∀ k, k < i → Ok2 f m (q + 2 * k)) → (syG f m (q, false) i).2 = (q + 2 * i, false) ∧ (syG f m (q, false) i).1 = (List.range i).map (fun j => (prI f (q + 2 * j)).toNat)
  | 0, _ => ⟨rfl, rfl⟩
  | i + 1, h => by
    obtain ⟨ih1, ih2⟩ := sy_of i (fun k hk => h k (by omega))
    have e := count2_of (h i (by omega))
    constructor
    · simp only [syG, ih1, e]
      rfl
    · simp only [syG, ih1, ih2, e, List.range_succ, List.map_append]
      rfl
theorem sy_good {f : ByteArray} {m q : Nat} : ∀ i, (syG f m (q, false) i).2.2 = false → ∀ k, k < i → Ok2 f m (q + 2 * k)
  | 0, _, k, hk => by omega
  | i + 1, h, k, hk => by
    have hi : (syG f m (q, false) i).2.2 = false := by
      cases hx : (syG f m (q, false) i).2.2 with
      | false => rfl
      | true => have := syG_bad hx 1; rw [this] at h; cases h
    have ih := sy_good i hi
    by_cases hki : k < i
    · exact ih k hki
    · have : k = i := by omega
      subst this
      simp only [syG, (sy_of k ih).1] at h
      exact count2_good h

end Go.Proofs.Ytgifhgnccmnbiaa
