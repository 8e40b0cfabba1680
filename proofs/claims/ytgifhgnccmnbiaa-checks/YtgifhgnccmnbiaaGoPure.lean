/- The reader of patterns: the reader whole, as one plain function with a tag and fuel; what it comes to with fuel enough. No Go in it. -/
import Derived.Test.YtgifhgnccmnbiaaNodesPure
set_option linter.unusedVariables false
set_option linter.unusedSimpArgs false
namespace Go.Proofs.Ytgifhgnccmnbiaa

/-- An atom that is neither a group nor a list, behind its first byte c. -/
def plainS (t : ByteArray) (c : Int) (st : PS) : Nat × PS :=
  if c = 46 then bytesS 0 255 st
  else if c = 94 then addS { kind := 2, size := 1 } st
  else if c = 36 then addS { kind := 3, size := 1 } st
  else if c = 92 then bytesS (nextS t st.1).1 (nextS t st.1).1 ((nextS t st.1).2, st.2)
  else if c = 41 ∨ c = 124 ∨ c = 42 ∨ c = 43 ∨ c = 63 ∨ c = 123 then bytesS c c (failS t, st.2)
  else bytesS c c st
/-- Behind a group's pattern. -/
def closeS (t : ByteArray) (r : Nat × PS) : Nat × PS := (r.1, (if (takeS t 41 r.2.1).1 = true then (takeS t 41 r.2.1).2 else failS t, r.2.2))

/-- tag 0: a pattern; 1: a branch; 2: a piece; 3: an atom; 4, 5, 6: what may follow a branch in its pattern, a piece in its branch, an atom in its piece. -/
def goS (t : ByteArray) : Nat → Nat → Nat → PS → Nat × PS
  | 0, _, cur, st => (cur, st)
  | f + 1, tag, cur, st =>
    if tag = 0 then goS t f 4 (goS t f 1 0 st).1 (goS t f 1 0 st).2
    else if tag = 1 then
      if endS t st.1 = true then addS { kind := 0, size := 1 } st
      else goS t f 5 (goS t f 2 0 st).1 (goS t f 2 0 st).2
    else if tag = 2 then goS t f 6 (goS t f 3 0 st).1 (goS t f 3 0 st).2
    else if tag = 3 then
      if (nextS t st.1).1 = 40 then closeS t (goS t f 0 0 ((nextS t st.1).2, st.2))
      else if (nextS t st.1).1 = 91 then listS t ((nextS t st.1).2, st.2)
      else plainS t (nextS t st.1).1 ((nextS t st.1).2, st.2)
    else if tag = 4 then
      if (takeS t 124 st.1).1 = true then
        goS t f 4 (joinS 5 cur (goS t f 1 0 ((takeS t 124 st.1).2, st.2)).1 (goS t f 1 0 ((takeS t 124 st.1).2, st.2)).2).1 (joinS 5 cur (goS t f 1 0 ((takeS t 124 st.1).2, st.2)).1 (goS t f 1 0 ((takeS t 124 st.1).2, st.2)).2).2
      else (cur, st)
    else if tag = 5 then
      if endS t st.1 = true then (cur, st)
      else goS t f 5 (joinS 4 cur (goS t f 2 0 st).1 (goS t f 2 0 st).2).1 (joinS 4 cur (goS t f 2 0 st).1 (goS t f 2 0 st).2).2
    else
      if repS t st.1 = true then goS t f 6 (againS cur (repeatS t st.1).1 ((repeatS t st.1).2, st.2)).1 (againS cur (repeatS t st.1).1 ((repeatS t st.1).2, st.2)).2
      else (cur, st)

def Ev (t : ByteArray) (tag cur : Nat) (st : PS) (r : Nat × PS) : Prop := ∃ f0, ∀ f, f0 ≤ f → goS t f tag cur st = r

theorem ev_max {p q : Nat → Prop} (hp : ∃ a, ∀ f, a ≤ f → p f) (hq : ∃ a, ∀ f, a ≤ f → q f) : ∃ a, ∀ f, a ≤ f → p f ∧ q f := by
  obtain ⟨a, ha⟩ := hp
  obtain ⟨c, hc⟩ := hq
  exact ⟨a + c, fun f hf => ⟨ha f (by omega), hc f (by omega)⟩⟩
theorem ev_succ {p : Nat → Prop} (hp : ∃ a, ∀ f, a ≤ f → p (f + 1)) : ∃ a, ∀ f, a ≤ f → p f := by
  obtain ⟨a, ha⟩ := hp
  refine ⟨a + 1, fun f hf => ?_⟩
  obtain ⟨g, rfl⟩ : ∃ g, f = g + 1 := ⟨f - 1, by omega⟩
  exact ha g (by omega)

section
variable {t : ByteArray} {cur : Nat} {st : PS} {r r1 : Nat × PS}
theorem Ev.pattern (h1 : Ev t 1 0 st r1) (h2 : Ev t 4 r1.1 r1.2 r) : Ev t 0 0 st r :=
  ev_succ (by obtain ⟨a, h⟩ := ev_max h1 h2; exact ⟨a, fun f hf => by obtain ⟨x, y⟩ := h f hf; rw [goS, if_pos rfl, x, y]⟩)
theorem Ev.empty (he : endS t st.1 = true) : Ev t 1 0 st (addS { kind := 0, size := 1 } st) :=
  ev_succ ⟨0, fun f _ => by rw [goS, if_neg (by decide), if_pos rfl, if_pos he]⟩
theorem Ev.branch (he : endS t st.1 = false) (h1 : Ev t 2 0 st r1) (h2 : Ev t 5 r1.1 r1.2 r) : Ev t 1 0 st r :=
  ev_succ (by obtain ⟨a, h⟩ := ev_max h1 h2; exact ⟨a, fun f hf => by obtain ⟨x, y⟩ := h f hf; rw [goS, if_neg (by decide), if_pos rfl, if_neg (by rw [he]; decide), x, y]⟩)
theorem Ev.piece (h1 : Ev t 3 0 st r1) (h2 : Ev t 6 r1.1 r1.2 r) : Ev t 2 0 st r :=
  ev_succ (by obtain ⟨a, h⟩ := ev_max h1 h2; exact ⟨a, fun f hf => by obtain ⟨x, y⟩ := h f hf; rw [goS, if_neg (by decide), if_neg (by decide), if_pos rfl, x, y]⟩)
theorem Ev.group (he : (nextS t st.1).1 = 40) (h1 : Ev t 0 0 ((nextS t st.1).2, st.2) r1) : Ev t 3 0 st (closeS t r1) :=
  ev_succ (by obtain ⟨a, h⟩ := h1; exact ⟨a, fun f hf => by rw [goS, if_neg (by decide), if_neg (by decide), if_neg (by decide), if_pos rfl, if_pos he, h f hf]⟩)
theorem Ev.list (he : (nextS t st.1).1 = 91) : Ev t 3 0 st (listS t ((nextS t st.1).2, st.2)) :=
  ev_succ ⟨0, fun f _ => by rw [goS, if_neg (by decide), if_neg (by decide), if_neg (by decide), if_pos rfl, if_neg (by rw [he]; decide), if_pos he]⟩
theorem Ev.plain (h1 : (nextS t st.1).1 ≠ 40) (h2 : (nextS t st.1).1 ≠ 91) : Ev t 3 0 st (plainS t (nextS t st.1).1 ((nextS t st.1).2, st.2)) :=
  ev_succ ⟨0, fun f _ => by rw [goS, if_neg (by decide), if_neg (by decide), if_neg (by decide), if_pos rfl, if_neg h1, if_neg h2]⟩
theorem Ev.or (he : (takeS t 124 st.1).1 = true) (h1 : Ev t 1 0 ((takeS t 124 st.1).2, st.2) r1) (h2 : Ev t 4 (joinS 5 cur r1.1 r1.2).1 (joinS 5 cur r1.1 r1.2).2 r) : Ev t 4 cur st r :=
  ev_succ (by obtain ⟨a, h⟩ := ev_max h1 h2; exact ⟨a, fun f hf => by
    obtain ⟨x, y⟩ := h f hf
    rw [goS, if_neg (by decide), if_neg (by decide), if_neg (by decide), if_neg (by decide), if_pos rfl, if_pos he, x, y]⟩)
theorem Ev.orEnd (he : (takeS t 124 st.1).1 = false) : Ev t 4 cur st (cur, st) :=
  ev_succ ⟨0, fun f _ => by rw [goS, if_neg (by decide), if_neg (by decide), if_neg (by decide), if_neg (by decide), if_pos rfl, if_neg (by rw [he]; decide)]⟩
theorem Ev.and (he : endS t st.1 = false) (h1 : Ev t 2 0 st r1) (h2 : Ev t 5 (joinS 4 cur r1.1 r1.2).1 (joinS 4 cur r1.1 r1.2).2 r) : Ev t 5 cur st r :=
  ev_succ (by obtain ⟨a, h⟩ := ev_max h1 h2; exact ⟨a, fun f hf => by
    obtain ⟨x, y⟩ := h f hf
    rw [goS, if_neg (by decide), if_neg (by decide), if_neg (by decide), if_neg (by decide), if_neg (by decide), if_pos rfl, if_neg (by rw [he]; decide), x, y]⟩)
theorem Ev.andEnd (he : endS t st.1 = true) : Ev t 5 cur st (cur, st) :=
  ev_succ ⟨0, fun f _ => by rw [goS, if_neg (by decide), if_neg (by decide), if_neg (by decide), if_neg (by decide), if_neg (by decide), if_pos rfl, if_pos he]⟩
theorem Ev.rep (he : repS t st.1 = true) (h2 : Ev t 6 (againS cur (repeatS t st.1).1 ((repeatS t st.1).2, st.2)).1 (againS cur (repeatS t st.1).1 ((repeatS t st.1).2, st.2)).2 r) : Ev t 6 cur st r :=
  ev_succ (by obtain ⟨a, h⟩ := h2; exact ⟨a, fun f hf => by
    rw [goS, if_neg (by decide), if_neg (by decide), if_neg (by decide), if_neg (by decide), if_neg (by decide), if_neg (by decide), if_pos he, h f hf]⟩)
theorem Ev.repEnd (he : repS t st.1 = false) : Ev t 6 cur st (cur, st) :=
  ev_succ ⟨0, fun f _ => by rw [goS, if_neg (by decide), if_neg (by decide), if_neg (by decide), if_neg (by decide), if_neg (by decide), if_neg (by decide), if_neg (by rw [he]; decide)]⟩
/-- There is one outcome. -/
theorem Ev.one {tag : Nat} {r' : Nat × PS} (h : Ev t tag cur st r) (h' : Ev t tag cur st r') : r = r' := by
  obtain ⟨a, ha⟩ := h
  obtain ⟨c, hc⟩ := h'
  rw [← ha (a + c) (by omega), hc (a + c) (by omega)]
end

end Go.Proofs.Ytgifhgnccmnbiaa
