/- The document's PackZ: bytes out of bits, plainly. -/
import Derived.Test.YtgifhgnccmnbiaaRzPick
set_option linter.unusedVariables false
set_option linter.unusedSimpArgs false
namespace Go.Proofs.Ytgifhgnccmnbiaa
open Go.RowKit Go.IntWalk

theorem dbyte_lt {S : List Nat} (h : ∀ c, c ∈ S → c < 2) (p : Nat) : ∀ i, dbyte S p i < 2 ^ i
  | 0 => by simp [dbyte]
  | i + 1 => by
    have ih := dbyte_lt h p i
    rw [dbyte, Nat.pow_succ]
    split
    · rename_i hp
      have hc : S.getD (p + i) 0 < 2 := by
        have e : S.getD (p + i) 0 = S[p + i] := by simp [List.getD, hp]
        rw [e]; exact h _ (List.getElem_mem hp)
      have := Nat.mul_le_mul_right (2 ^ i) (by omega : S.getD (p + i) 0 ≤ 1)
      omega
    · omega
theorem dbyte_stop {S : List Nat} {p i : Nat} (h : S.length ≤ p + i) : ∀ k, dbyte S p (i + k) = dbyte S p i
  | 0 => rfl
  | k + 1 => by
    show dbyte S p (i + k + 1) = _
    rw [dbyte, if_neg (by omega), dbyte_stop h k]
theorem dbytes_lt {S : List Nat} (h : ∀ c, c ∈ S → c < 2) (n : Nat) : ∀ c, c ∈ dbytes S n → c < 256 := fun c hc => by
  unfold dbytes at hc
  obtain ⟨j, _, rfl⟩ := List.mem_map.1 hc
  exact dbyte_lt h _ 8
theorem dbytes_len (S : List Nat) (n : Nat) : (dbytes S n).length = n := by simp [dbytes]
/-- A block that has just been made, as a row of one's own. -/
theorem own_fresh (w : World) (base : Nat) (hb : base ≤ w.heap.size) (l : List Nat) (h3 : l.length ≤ 1000) : (w.alloc (.cells (byteCells l).toArray 5)).ownsRow base 5 1 (.slice (some ⟨w.heap.size, 0, none⟩) l.length l.length) l.length (byteCells l) := by
  have hl : (byteCells l).length = l.length := by simp [byteCells]
  refine ⟨by rw [hl]; omega, Or.inr ⟨w.heap.size, l.length, (byteCells l).toArray, rfl, hb, ?_, ?_⟩⟩
  · exact Blk.new w _ _
  · refine ⟨Nat.le_refl _, by unfold maxLen; omega, by simp [hl], ?_⟩
    rw [Nat.mul_one, ← hl]
    exact List.take_length

end Go.Proofs.Ytgifhgnccmnbiaa
