/- The reader whole, once more, as derivations: so that what is said of it can be shown by induction. No Go in it. -/
import Derived.Test.YtjhmkkhnnijigaaGoPure
set_option linter.unusedVariables false
set_option linter.unusedSimpArgs false
namespace Go.Proofs.Ytjhmkkhnnijigaa

inductive D (t : ByteArray) : Nat → Nat → PS → Nat × PS → Prop
  | pattern {cur st r1 r} : D t 1 0 st r1 → D t 4 r1.1 r1.2 r → D t 0 cur st r
  | empty {cur st} : endS t st.1 = true → D t 1 cur st (addS { kind := 0, size := 1 } st)
  | branch {cur st r1 r} : endS t st.1 = false → D t 2 0 st r1 → D t 5 r1.1 r1.2 r → D t 1 cur st r
  | piece {cur st r1 r} : D t 3 0 st r1 → D t 6 r1.1 r1.2 r → D t 2 cur st r
  | group {cur st r1} : (nextS t st.1).1 = 40 → D t 0 0 ((nextS t st.1).2, st.2) r1 → D t 3 cur st (closeS t r1)
  | list {cur st} : (nextS t st.1).1 = 91 → D t 3 cur st (listS t ((nextS t st.1).2, st.2))
  | plain {cur st} : (nextS t st.1).1 ≠ 40 → (nextS t st.1).1 ≠ 91 → D t 3 cur st (plainS t (nextS t st.1).1 ((nextS t st.1).2, st.2))
  | or {cur st r1 r} : (takeS t 124 st.1).1 = true → D t 1 0 ((takeS t 124 st.1).2, st.2) r1 → D t 4 (joinS 5 cur r1.1 r1.2).1 (joinS 5 cur r1.1 r1.2).2 r → D t 4 cur st r
  | orEnd {cur st} : (takeS t 124 st.1).1 = false → D t 4 cur st (cur, st)
  | and {cur st r1 r} : endS t st.1 = false → D t 2 0 st r1 → D t 5 (joinS 4 cur r1.1 r1.2).1 (joinS 4 cur r1.1 r1.2).2 r → D t 5 cur st r
  | andEnd {cur st} : endS t st.1 = true → D t 5 cur st (cur, st)
  | rep {cur st r} : repS t st.1 = true → D t 6 (againS cur (repeatS t st.1).1 ((repeatS t st.1).2, st.2)).1 (againS cur (repeatS t st.1).1 ((repeatS t st.1).2, st.2)).2 r → D t 6 cur st r
  | repEnd {cur st} : repS t st.1 = false → D t 6 cur st (cur, st)

/-- The tag alone decides whether the first argument counts. -/
def curOf (tag cur : Nat) : Nat := if 4 ≤ tag then cur else 0
theorem D.ev {t : ByteArray} {tag cur : Nat} {st : PS} {r : Nat × PS} (h : D t tag cur st r) : Ev t tag (curOf tag cur) st r := by
  induction h with
  | pattern _ _ a b => exact Ev.pattern a b
  | empty he => exact Ev.empty he
  | branch he _ _ a b => exact Ev.branch he a b
  | piece _ _ a b => exact Ev.piece a b
  | group he _ a => exact Ev.group he a
  | list he => exact Ev.list he
  | plain h1 h2 => exact Ev.plain h1 h2
  | or he _ _ a b => exact Ev.or he a b
  | orEnd he => exact Ev.orEnd he
  | and he _ _ a b => exact Ev.and he a b
  | andEnd he => exact Ev.andEnd he
  | rep he _ a => exact Ev.rep he a
  | repEnd he => exact Ev.repEnd he

/-- Where a step ends. -/
structure Fw (t : ByteArray) (st : PS) (r : Nat × PS) : Prop where
  fit : Fits t r.2.1
  ge : st.1.1 ≤ r.2.1.1
def Has (t : ByteArray) (tag cur : Nat) (st : PS) : Prop := ∃ r, D t tag cur st r ∧ Fw t st r
def HasGt (t : ByteArray) (tag cur : Nat) (st : PS) : Prop := ∃ r, D t tag cur st r ∧ Fw t st r ∧ st.1.1 < r.2.1.1

theorem list_fw {t : ByteArray} {st : PS} (h : Fits t st.1) : Fw t st (listS t st) := by
  have h1 := fits_take (t := t) (c := 94) (by omega) h
  have g1 := take_ge (t := t) (c := 94) (s := st.1)
  have hfI : ∀ (f : Nat) (s : RS) (acc : List (Int × Int)), Fits t s → Fits t (itemsF t f s acc).2 := by
    intro f
    induction f with
    | zero => intro s acc h; exact h
    | succ f ih =>
      intro s acc h
      rw [itemsF]
      split
      · exact ih _ _ (fits_item h)
      · exact h
  have h2 : Fits t (itemsS t (takeS t 94 st.1).2 []).2 := hfI _ _ _ h1
  have g2 := itemsS_ge (t := t) (s := (takeS t 94 st.1).2) (acc := []) h1
  have h3 := fits_take (t := t) (c := 93) (by omega) h2
  have g3 := take_ge (t := t) (c := 93) (s := (itemsS t (takeS t 94 st.1).2 []).2)
  unfold listS
  simp only [addS]
  split
  · exact ⟨fits_fail t, h⟩
  · exact ⟨h3, by simp only []; omega⟩
theorem plain_fw {t : ByteArray} {c : Int} {st : PS} (h : Fits t st.1) : Fw t st (plainS t c st) := by
  have h1 := fits_next h
  have g1 := next_ge h
  unfold plainS bytesS addS
  repeat' split
  all_goals first | exact ⟨h, Nat.le_refl _⟩ | exact ⟨h1, g1⟩ | exact ⟨fits_fail t, h⟩
theorem close_fw {t : ByteArray} {st : PS} {r : Nat × PS} (h : Fw t st r) : Fw t st (closeS t r) := by
  have h3 := fits_take (t := t) (c := 41) (by omega) h.fit
  have g3 := take_ge (t := t) (c := 41) (s := r.2.1)
  have := h.ge
  have := h.fit
  unfold closeS
  split
  · exact ⟨h3, by simp only []; omega⟩
  · exact ⟨fits_fail t, by simp only [failS]; simp only [Fits] at this; omega⟩

section
variable {t : ByteArray}
/-- The state that holds below m: all that begins with fewer than m bytes left comes to an end. -/
def Below' (t : ByteArray) (m : Nat) : Prop := ∀ st : PS, Fits t st.1 → t.size - st.1.1 < m →
  (∀ cur, Has t 0 cur st) ∧ (∀ cur, Has t 1 cur st) ∧ (st.1.1 < t.size → ∀ cur, HasGt t 2 cur st ∧ HasGt t 3 cur st) ∧ (∀ cur, Has t 4 cur st) ∧ (∀ cur, Has t 5 cur st) ∧ (∀ cur, Has t 6 cur st)

theorem below_step {m : Nat} (ih : Below' t m) : Below' t (m + 1) := by
  intro st hf hm
  have rep : ∀ cur, Has t 6 cur st := fun cur => by
    cases hr : repS t st.1 with
    | false => exact ⟨_, D.repEnd hr, hf, Nat.le_refl _⟩
    | true =>
      have hlt := repS_lt hr
      have hgt := repeat_gt hlt
      have hfr := fits_repeat hf
      obtain ⟨r, d, f⟩ := (ih (againS cur (repeatS t st.1).1 ((repeatS t st.1).2, st.2)).2 hfr (by show t.size - (repeatS t st.1).2.1 < m; omega)).2.2.2.2.2 (againS cur (repeatS t st.1).1 ((repeatS t st.1).2, st.2)).1
      exact ⟨r, D.rep hr d, f.fit, by have := f.ge; simp only [againS, addS] at this; omega⟩
  have atom : st.1.1 < t.size → ∀ cur, HasGt t 3 cur st := fun hlt cur => by
    have hgt := next_gt hlt
    have hfn := fits_next (t := t) (s := st.1) hf
    by_cases h1 : (nextS t st.1).1 = 40
    · obtain ⟨r, d, f⟩ := (ih ((nextS t st.1).2, st.2) hfn (by show t.size - (nextS t st.1).2.1 < m; omega)).1 0
      have f2 := close_fw f
      exact ⟨_, D.group h1 d, ⟨f2.fit, by have := f2.ge; simp only [] at this; omega⟩, by have := f2.ge; simp only [] at this; omega⟩
    · by_cases h2 : (nextS t st.1).1 = 91
      · have f2 := list_fw (t := t) (st := ((nextS t st.1).2, st.2)) hfn
        exact ⟨_, D.list h2, ⟨f2.fit, by have := f2.ge; simp only [] at this; omega⟩, by have := f2.ge; simp only [] at this; omega⟩
      · have f2 := plain_fw (t := t) (c := (nextS t st.1).1) (st := ((nextS t st.1).2, st.2)) hfn
        exact ⟨_, D.plain h1 h2, ⟨f2.fit, by have := f2.ge; simp only [] at this; omega⟩, by have := f2.ge; simp only [] at this; omega⟩
  have piece : st.1.1 < t.size → ∀ cur, HasGt t 2 cur st := fun hlt cur => by
    obtain ⟨r1, d1, f1, g1⟩ := atom hlt 0
    obtain ⟨r, d, f⟩ := (ih r1.2 f1.fit (by omega)).2.2.2.2.2 r1.1
    exact ⟨r, D.piece d1 d, ⟨f.fit, Nat.le_trans f1.ge f.ge⟩, by have := f.ge; omega⟩
  have more : ∀ cur, Has t 5 cur st := fun cur => by
    cases he : endS t st.1 with
    | true => exact ⟨_, D.andEnd he, hf, Nat.le_refl _⟩
    | false =>
      have hlt := endS_lt he
      obtain ⟨r1, d1, f1, g1⟩ := piece hlt 0
      obtain ⟨r, d, f⟩ := (ih (joinS 4 cur r1.1 r1.2).2 f1.fit (by show t.size - r1.2.1.1 < m; omega)).2.2.2.2.1 (joinS 4 cur r1.1 r1.2).1
      exact ⟨r, D.and he d1 d, ⟨f.fit, Nat.le_trans f1.ge f.ge⟩⟩
  have branch : ∀ cur, Has t 1 cur st := fun cur => by
    cases he : endS t st.1 with
    | true => exact ⟨_, D.empty he, hf, Nat.le_refl _⟩
    | false =>
      have hlt := endS_lt he
      obtain ⟨r1, d1, f1, g1⟩ := piece hlt 0
      obtain ⟨r, d, f⟩ := (ih r1.2 f1.fit (by omega)).2.2.2.2.1 r1.1
      exact ⟨r, D.branch he d1 d, ⟨f.fit, Nat.le_trans f1.ge f.ge⟩⟩
  have alts : ∀ cur, Has t 4 cur st := fun cur => by
    cases he : (takeS t 124 st.1).1 with
    | false => exact ⟨_, D.orEnd he, hf, Nat.le_refl _⟩
    | true =>
      have hgt := take_gt he
      have hft := fits_take (t := t) (c := 124) (by omega) hf
      obtain ⟨r1, d1, f1⟩ := (ih ((takeS t 124 st.1).2, st.2) hft (by show t.size - (takeS t 124 st.1).2.1 < m; have : (takeS t 124 st.1).2.1 ≤ t.size := hft; omega)).2.1 0
      have g1 := f1.ge
      simp only [] at g1
      obtain ⟨r, d, f⟩ := (ih (joinS 5 cur r1.1 r1.2).2 f1.fit (by show t.size - r1.2.1.1 < m; have : r1.2.1.1 ≤ t.size := f1.fit; have : (takeS t 124 st.1).2.1 ≤ t.size := hft; omega)).2.2.2.1 (joinS 5 cur r1.1 r1.2).1
      exact ⟨r, D.or he d1 d, ⟨f.fit, by have := f.ge; simp only [joinS, addS] at this; omega⟩⟩
  refine ⟨fun cur => ?_, branch, fun h cur => ⟨piece h cur, atom h cur⟩, alts, more, rep⟩
  obtain ⟨r1, d1, f1⟩ := branch 0
  by_cases hsame : r1.2.1.1 = st.1.1
  · -- nothing read yet: what follows has as many bytes left
    have alts1 : Has t 4 r1.1 r1.2 := by
      cases he : (takeS t 124 r1.2.1).1 with
      | false => exact ⟨_, D.orEnd he, f1.fit, Nat.le_refl _⟩
      | true =>
        have hgt := take_gt he
        have hft := fits_take (t := t) (c := 124) (by omega) f1.fit
        obtain ⟨r2, d2, f2⟩ := (ih ((takeS t 124 r1.2.1).2, r1.2.2) hft (by show t.size - (takeS t 124 r1.2.1).2.1 < m; have : (takeS t 124 r1.2.1).2.1 ≤ t.size := hft; omega)).2.1 0
        have g2 := f2.ge
        simp only [] at g2
        obtain ⟨r, d, f⟩ := (ih (joinS 5 r1.1 r2.1 r2.2).2 f2.fit (by show t.size - r2.2.1.1 < m; have : r2.2.1.1 ≤ t.size := f2.fit; have : (takeS t 124 r1.2.1).2.1 ≤ t.size := hft; omega)).2.2.2.1 (joinS 5 r1.1 r2.1 r2.2).1
        exact ⟨r, D.or he d2 d, ⟨f.fit, by have := f.ge; simp only [joinS, addS] at this; omega⟩⟩
    obtain ⟨r, d, f⟩ := alts1
    exact ⟨r, D.pattern d1 d, f.fit, Nat.le_trans f1.ge f.ge⟩
  · have hlt : st.1.1 < r1.2.1.1 := by have := f1.ge; omega
    obtain ⟨r, d, f⟩ := (ih r1.2 f1.fit (by have : r1.2.1.1 ≤ t.size := f1.fit; omega)).2.2.2.1 r1.1
    exact ⟨r, D.pattern d1 d, f.fit, Nat.le_trans f1.ge f.ge⟩
theorem below_all : ∀ m, Below' t m
  | 0 => fun _ _ h => by omega
  | m + 1 => below_step (below_all m)
end

/-- THE READER's OUTCOME HAS A DERIVATION. -/
theorem Ev.deriv {t : ByteArray} {st : PS} {r : Nat × PS} (hf : Fits t st.1) (h : Ev t 0 0 st r) : D t 0 0 st r := by
  obtain ⟨r', d, _⟩ := (below_all (t := t) (t.size - st.1.1 + 1) st hf (by omega)).1 0
  have := Ev.one h d.ev
  subst this
  exact d

end Go.Proofs.Ytjhmkkhnnijigaa
