/- The law Shapes, walked: both sides say the same wherever the two answers are one. -/
import Derived.Test.YtgifhgnccmnbiaaRfShape
set_option linter.unusedVariables false
set_option linter.unusedSimpArgs false
namespace Go.Proofs.Ytgifhgnccmnbiaa
open Go.RowKit Go.IntWalk

theorem ShapeOut.form {f : ByteArray} {w w' : World} {e : Ending} (h : ShapeOut f w w' e) : ∃ (k c : Int) (n l m : Nat), e = .returned (.tuple #[.agg #[.int .i64 k, .int .i64 (n : Int), .int .i64 (l : Int), .int .i64 (m : Int)], .int .i64 c]) := by
  rcases h.out with ⟨_, he⟩ | ⟨t, _, ⟨_, he⟩ | ⟨_, he⟩⟩
  · exact ⟨0, 4, 0, 0, 0, he⟩
  · exact ⟨0, 5, 0, 0, 0, he⟩
  · exact ⟨_, 0, _, _, _, he⟩

/-- What is still to be shown of the two answers. -/
def ShapeSame : Prop := ∀ (f : ByteArray) (w0 w1 w2 w3 : World) (e e' : Ending), ShapeOut f w0 w1 e → ShapeR f w2 w3 e' → e = e'

set_option maxHeartbeats 4000000 in
set_option maxRecDepth 100000 in
theorem shapes_law (hsame : ShapeSame) (f : ByteArray) (hf : f.size ≤ maxLen) (w : World) :
    Calls Try.prog 9 #[.string f] w fun e w' => e = .returned (.bool true) ∧ Below w.heap.size w w' := by
  have h1 : Hid (Calls _ _ _ w _) := shape_any f hf w
  have h2 : Hid (∀ w, Calls _ _ _ w _) := fun w => shapeR_any f hf w
  have hsH : Hid ShapeSame := hsame
  clear hsame
  go_enter Try.func9, Try.ntmps9
  go_wp2_with fail
  refine h1.out.mono ?_
  rintro e w1 ho
  obtain ⟨k, c, n, l, m, rfl⟩ := ho.form
  have hoH : Hid (ShapeOut _ _ _ _) := ho
  have hB1 : Hid (∀ o, Below w.heap.size w (w1.alloc o)) := fun o => ho.below.alloc ho.below.size o
  have hsz1 : Hid (w.heap.size ≤ w1.heap.size) := ho.below.size
  clear ho h1
  go_wp2_with fail
  refine (h2.out _).mono ?_
  rintro e w2 hr
  have he := hsH.out f _ _ _ _ _ _ hoH.out hr
  subst he
  have k2 := hr.kept
  have hA : Blk w2 w1.heap.size #[.int .i64 k, .int .i64 (n : Int), .int .i64 (l : Int), .int .i64 (m : Int)] 41 := (Blk.new w1 _ _).kept k2 (by simp)
  have d0 : w2.cell? ⟨w1.heap.size, 0, none⟩ = some (.int .i64 k) := hA.cell 0
  have d1 : w2.cell? ⟨w1.heap.size, 1, none⟩ = some (.int .i64 (n : Int)) := hA.cell 1
  have d2 : w2.cell? ⟨w1.heap.size, 2, none⟩ = some (.int .i64 (l : Int)) := hA.cell 2
  have d3 : w2.cell? ⟨w1.heap.size, 3, none⟩ = some (.int .i64 (m : Int)) := hA.cell 3
  have hA1 : w1.heap.size < w2.heap.size := hA.lt
  have hB2 : Hid (∀ o, Below w.heap.size w (w2.alloc o)) := fun o => ((hB1.out _).trans (k2.below (by have := hsz1.out; simp; omega) (by simp))).alloc (by have := hsz1.out; omega) o
  clear hA k2 hr hoH hsH h2 hB1
  go_wp2
  go_ret
  exact ⟨rfl, hB2.out _⟩

end Go.Proofs.Ytgifhgnccmnbiaa
