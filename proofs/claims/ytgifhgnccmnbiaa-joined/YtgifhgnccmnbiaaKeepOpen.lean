/- The law's own calls: opening; what opening and cutting come to on a doubled file. -/
import Derived.Test.YtgifhgnccmnbiaaDblWalk
set_option linter.unusedVariables false
set_option linter.unusedSimpArgs false
namespace Go.Proofs.Ytgifhgnccmnbiaa
open Go.RowKit Go.IntWalk

section
variable {f : ByteArray} {tx more : List Nat} {k : Nat} (h : Dbl f tx k more)
include h
theorem Dbl.whole : (sgT f).whole = ptOf (repL tx (2 ^ k) ++ more) := by
  obtain ⟨_, h2, h3⟩ := h.stext
  rw [h2.whole, h3]
theorem Dbl.cut {x y : Int} {w w' : World} {e : Ending} (ho : CutOut f x y w w' e) (hl : (repL tx (2 ^ k) ++ more).length ≤ 1099511627776) : RangeCase (repL tx (2 ^ k) ++ more) x y e := by
  obtain ⟨h1, h2, h3⟩ := h.stext
  have := ho.file h1 h2.sound h2.start h2.whole (by rw [h.whole, ptOf_len, capL_of (by omega)]; exact hl)
  rwa [h3] at this
theorem Dbl.shape {w w' : World} {e : Ending} (ho : ShapeOut f w w' e) (hl : (repL tx (2 ^ k) ++ more).length ≤ 1099511627776) :
    e = .returned (.tuple #[.agg (infoV 71 (1 + more.length) (repL tx (2 ^ k) ++ more).length (linesS (ptOf (repL tx (2 ^ k) ++ more)))), .int .i64 0]) := by
  obtain ⟨h1, h2, h3⟩ := h.stext
  have hw := h.whole
  have hlen : (sgT f).whole.len = (repL tx (2 ^ k) ++ more).length := by rw [hw, ptOf_len, capL_of (by omega)]
  obtain ⟨e1, e2, e3, e4, e5⟩ := h.ok.read
  have hsy : (sgT f).syms = 1 + more.length := by show (sgN f).1 = _; rw [e3, ← h.gn]
  rcases ho.out with ⟨hn, _⟩ | ⟨t, ht, ⟨h4, _⟩ | ⟨h4, he⟩⟩
  · exact absurd h1 (hn _)
  · have := ht.one h1
    subst this
    omega
  · have := ht.one h1
    subst this
    rw [he, hsy, hlen, hw]
    rfl
end
def oneF : ByteArray := ⟨#[83, 71, 0, 1, 0, 97, 0]⟩
theorem one_dbl : Dbl oneF [97] 0 [] := ⟨rfl, by decide, by decide, by decide, by decide, by intro c hc; simp at hc; omega, fun c hc => by simp at hc⟩

set_option maxHeartbeats 1000000 in
set_option maxRecDepth 100000 in
theorem opening_any (w : World) : Calls Try.prog 33 #[] w fun e w' => e = .returned (.bool true) ∧ Below w.heap.size w w' := by
  have h1 : Hid (Calls _ _ _ w _) := shape_any oneF (by unfold maxLen; decide) w
  have h2 : Hid (∀ w, Calls _ _ _ w _) := fun w => cut_any oneF (by unfold maxLen; decide) 0 1 (by omega) (by omega) (by omega) (by omega) w
  unfold oneF at h1 h2
  go_enter Try.func33, Try.ntmps33
  go_wp2_with fail
  refine h1.out.mono ?_
  rintro e w1 ho
  have e1 := one_dbl.shape ho (by decide)
  have hl : infoV 71 (1 + ([] : List Nat).length) (repL [97] (2 ^ 0) ++ []).length (linesS (ptOf (repL [97] (2 ^ 0) ++ []))) = #[.int .i64 71, .int .i64 1, .int .i64 1, .int .i64 1] := rfl
  rw [hl] at e1
  subst e1
  have hb1 : Hid (Below w.heap.size w w1) := ho.below
  clear ho h1 hl
  go_wp2_with fail
  refine (h2.out _).mono ?_
  rintro e w2 ho
  have e2 := one_dbl.cut ho (by decide)
  have e3 : e = .returned (.tuple #[.string ⟨#[97]⟩, .int .i64 0]) := by
    rcases e2 with ⟨h, _⟩ | ⟨_, h⟩
    · exact absurd (by unfold RangeOk; decide) h
    · rw [h]; rfl
  subst e3
  have hA : Blk w2 w1.heap.size #[.int .i64 71, .int .i64 1, .int .i64 1, .int .i64 1] 41 := (ho.below.block _ (by simp)).trans (Blk.new w1 _ _)
  have hsz := hb1.out.size
  have hb2 : Hid (Below w.heap.size w w2) := (hb1.out.alloc hsz (.cells #[.int .i64 71, .int .i64 1, .int .i64 1, .int .i64 1] 41)).trans (ho.below.mono (by simp; omega))
  have d0 : w2.cell? ⟨w1.heap.size, 0, none⟩ = some (.int .i64 71) := hA.cell 0
  have d1 : w2.cell? ⟨w1.heap.size, 1, none⟩ = some (.int .i64 1) := hA.cell 1
  have d2 : w2.cell? ⟨w1.heap.size, 2, none⟩ = some (.int .i64 1) := hA.cell 2
  have d3 : w2.cell? ⟨w1.heap.size, 3, none⟩ = some (.int .i64 1) := hA.cell 3
  clear hA ho e2 h2 hb1
  go_wp2
  go_ret
  exact ⟨rfl, hb2.out⟩

end Go.Proofs.Ytgifhgnccmnbiaa
