/- Cutting a text, plainly: of a text that stands at a place, the bytes between two places. No Go in it. -/
import Derived.Test.YtgifhgnccmnbiaaPkPure
set_option linter.unusedVariables false
set_option linter.unusedSimpArgs false
namespace Go.Proofs.Ytgifhgnccmnbiaa

/-- Of x, whose first byte is at place a: the bytes from place fr to place dst. -/
def cutX (x : List Nat) (fr dst a : Nat) : List Nat := (x.take (dst - a)).drop (fr - a)
theorem cutX_late {x : List Nat} {fr dst a : Nat} (h : dst ≤ a) : cutX x fr dst a = [] := by
  unfold cutX
  rw [show dst - a = 0 by omega]
  simp
theorem cutX_early {x : List Nat} {fr dst a : Nat} (h : a + x.length ≤ fr) : cutX x fr dst a = [] := by
  unfold cutX
  apply List.drop_eq_nil_of_le
  rw [List.length_take]
  omega
theorem cutX_nil {fr dst a : Nat} : cutX [] fr dst a = [] := by unfold cutX; simp
theorem cutX_one {c fr dst a : Nat} (h1 : a < dst) (h2 : fr ≤ a) : cutX [c] fr dst a = [c] := by
  unfold cutX
  obtain ⟨k, hk⟩ : ∃ k, dst - a = k + 1 := ⟨dst - a - 1, by omega⟩
  rw [hk, show fr - a = 0 by omega]
  simp
theorem cutX_app (x y : List Nat) (fr dst a : Nat) : cutX (x ++ y) fr dst a = cutX x fr dst a ++ cutX y fr dst (a + x.length) := by
  unfold cutX
  rw [List.take_append, List.drop_append, List.length_take]
  congr 1
  by_cases h : x.length ≤ dst - a
  · rw [Nat.min_eq_right h, Nat.sub_sub, Nat.sub_sub]
  · rw [show dst - a - x.length = 0 by omega, show dst - (a + x.length) = 0 by omega]
    simp
theorem cutX_min {y : List Nat} {fr dst a : Nat} : cutX y fr dst (min a dst) = cutX y fr dst a := by
  by_cases h : a ≤ dst
  · rw [Nat.min_eq_left h]
  · rw [cutX_late (by omega), cutX_late (by omega)]
theorem cutX_whole (x : List Nat) (fr dst : Nat) : cutX x fr dst 0 = (x.take dst).drop fr := by unfold cutX; simp
theorem cutX_length (x : List Nat) (fr dst a : Nat) : (cutX x fr dst a).length ≤ dst - a - (fr - a) := by
  unfold cutX
  rw [List.length_drop, List.length_take]
  omega
theorem cutX_byte {x : List Nat} (h : ∀ c, c ∈ x → c < 256) {fr dst a : Nat} : ∀ c, c ∈ cutX x fr dst a → c < 256 := fun c hc => by
  unfold cutX at hc
  exact h c (List.mem_of_mem_take (List.mem_of_mem_drop hc))

end Go.Proofs.Ytgifhgnccmnbiaa
