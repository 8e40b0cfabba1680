/- Bits and bytes of a stream, and the widths, plainly. -/
import Derived.Test.YtgifhgnccmnbiaaRzTail
set_option linter.unusedVariables false
set_option linter.unusedSimpArgs false
namespace Go.Proofs.Ytgifhgnccmnbiaa
open Go.RowKit Go.IntWalk

def valB : List Nat → Nat
  | [] => 0
  | b :: l => b + 2 * valB l
theorem valB_app : ∀ l m : List Nat, valB (l ++ m) = valB l + 2 ^ l.length * valB m
  | [], m => by simp [valB]
  | b :: l, m => by
    rw [List.cons_append, valB, valB, valB_app l m, List.length_cons, Nat.pow_succ, Nat.mul_add, ← Nat.mul_assoc, Nat.mul_comm 2 (2 ^ l.length)]; omega
theorem valB_lt : ∀ {l : List Nat}, (∀ c, c ∈ l → c < 2) → valB l < 2 ^ l.length
  | [], _ => by simp [valB]
  | b :: l, h => by
    have ih := valB_lt (l := l) (fun c hc => h c (by simp [hc]))
    have hb := h b (by simp)
    rw [valB, List.length_cons, Nat.pow_succ]; omega
theorem valB_bits (a : Nat) : ∀ w, valB (bitsOf a w) = a % 2 ^ w
  | 0 => by simp [bitsOf, valB, Nat.mod_one]
  | w + 1 => by
    rw [bitsOf_succ, valB_app, valB_bits a w, bitsOf_len, Nat.mod_pow_succ]
    simp [valB]
theorem valB_div : ∀ {l : List Nat} (p : Nat), (∀ c, c ∈ l → c < 2) → valB l / 2 ^ p = valB (l.drop p)
  | l, 0, _ => by simp
  | [], p + 1, _ => by simp [valB]
  | b :: l, p + 1, h => by
    have hb := h b (by simp)
    rw [List.drop_succ_cons, ← valB_div p (fun c hc => h c (by simp [hc])), valB, Nat.pow_succ, Nat.mul_comm (2 ^ p) 2, ← Nat.div_div_eq_div_mul]
    congr 1; omega
theorem valB_mod {l : List Nat} (i : Nat) (h : ∀ c, c ∈ l → c < 2) : valB l % 2 ^ i = valB (l.take i) := by
  have e : l.take i ++ l.drop i = l := List.take_append_drop i l
  have h1 := valB_lt (l := l.take i) (fun c hc => h c (List.mem_of_mem_take hc))
  have h2 := valB_app (l.take i) (l.drop i)
  rw [e] at h2
  by_cases hl : i ≤ l.length
  · have hl2 : (l.take i).length = i := by rw [List.length_take]; omega
    rw [hl2] at h1 h2
    rw [h2, Nat.add_mul_mod_self_left, Nat.mod_eq_of_lt h1]
  · have hd : l.drop i = [] := List.drop_eq_nil_of_le (by omega)
    have hl2 : (l.take i).length ≤ i := by rw [List.length_take]; omega
    rw [hd] at h2
    simp only [valB, Nat.mul_zero, Nat.add_zero] at h2
    rw [h2]
    exact Nat.mod_eq_of_lt (Nat.lt_of_lt_of_le h1 (Nat.pow_le_pow_right (by decide) hl2))
theorem dbyte_val (S : List Nat) (p : Nat) : ∀ i, dbyte S p i = valB ((S.drop p).take i)
  | 0 => by simp [dbyte, valB]
  | i + 1 => by
    rw [dbyte]
    have ih := dbyte_val S p i
    by_cases h : p + i < S.length
    · have hd : i < (S.drop p).length := by rw [List.length_drop]; omega
      rw [if_pos h, List.take_add_one, List.getElem?_eq_getElem hd, valB_app, ← ih, List.length_take, Nat.min_eq_left (by omega)]
      have e : (S.drop p)[i] = S.getD (p + i) 0 := by simp [List.getD, h]
      rw [e]
      simp [valB, Nat.mul_comm]
    · have hd : (S.drop p).length ≤ i := by rw [List.length_drop]; omega
      rw [if_neg h, ih, List.take_of_length_le hd, List.take_of_length_le (by omega)]
theorem dbytes_digs {S : List Nat} (h : ∀ c, c ∈ S → c < 2) (n : Nat) : dbytes S n = digs (valB S) n := by
  unfold dbytes digs
  refine List.map_congr_left fun j _ => ?_
  rw [dbyte_val, ← valB_mod 8 (fun c hc => h c (List.mem_of_mem_drop hc)), ← valB_div (8 * j) h]
  unfold dig
  rw [Nat.pow_mul]
theorem digs_cons (a v n : Nat) (ha : a < 256) : digs (a + 256 * v) (n + 1) = a :: digs v n := by
  unfold digs
  rw [List.range_succ_eq_map, List.map_cons, List.map_map]
  congr 1
  · unfold dig; rw [Nat.pow_zero, Nat.div_one]; omega
  · refine List.map_congr_left fun j _ => ?_
    show dig (a + 256 * v) (j + 1) = dig v j
    unfold dig
    rw [Nat.pow_succ, Nat.mul_comm (256 ^ j) 256, ← Nat.div_div_eq_div_mul]
    congr 2; omega

theorem wid_same {wd m : Nat} {tab : List Ent} (hwd : 9 ≤ wd ∧ wd ≤ 12) (hl : tab.length = min m (2 ^ wd - 257)) : zwid wd tab = widP (dfree m wd) wd := by
  unfold zwid dfree
  rw [hl]
  have p9 : (2 : Nat) ^ 9 = 512 := by decide
  have p10 : (2 : Nat) ^ 10 = 1024 := by decide
  have p11 : (2 : Nat) ^ 11 = 2048 := by decide
  have p12 : (2 : Nat) ^ 12 = 4096 := by decide
  have hmm : wd = 9 ∨ wd = 10 ∨ wd = 11 ∨ wd = 12 := by omega
  have key : ∀ P : Nat, 512 ≤ P → (if 0 < min m (P - 257) then 257 + (min m (P - 257) - 1) else 257) = (if P < (if 1 < m then 257 + m - 1 else 257) then P else if 1 < m then 257 + m - 1 else 257) ∨ ((if 0 < min m (P - 257) then 257 + (min m (P - 257) - 1) else 257) = P - 1 ∧ (if P < (if 1 < m then 257 + m - 1 else 257) then P else if 1 < m then 257 + m - 1 else 257) = P) := fun P hP => by
    by_cases h1 : 1 < m
    · rw [if_pos h1]
      by_cases h2 : m ≤ P - 257
      · rw [Nat.min_eq_left h2, if_pos (by omega), if_neg (by omega)]
        exact Or.inl (by omega)
      · rw [Nat.min_eq_right (by omega), if_pos (by omega)]
        refine Or.inr ⟨by omega, ?_⟩
        split <;> omega
    · rcases (by omega : m = 0 ∨ m = 1) with rfl | rfl
      · left; simp; omega
      · left
        rw [if_neg h1, if_neg (by omega : ¬ P < 257), Nat.min_eq_left (by omega)]
        rfl
  rcases hmm with rfl | rfl | rfl | rfl
  · rw [p9]
    rcases key 512 (by omega) with h | ⟨h, h2⟩
    · rw [h]
    · rw [h, h2]; rfl
  · rw [p10]
    rcases key 1024 (by omega) with h | ⟨h, h2⟩
    · rw [h]
    · rw [h, h2]; rfl
  · rw [p11]
    rcases key 2048 (by omega) with h | ⟨h, h2⟩
    · rw [h]
    · rw [h, h2]; rfl
  · rw [p12]
    rcases key 4096 (by omega) with h | ⟨h, h2⟩
    · rw [h]
    · rw [h, h2]; rfl

end Go.Proofs.Ytgifhgnccmnbiaa
