/- The reader whole, once more, as derivations: so that what is said of it can be shown by induction. No Go in it. -/
import Derived.Test.YtgifhgnccmnbiabGreatDoorG02
import Derived.Test.YtgifhgnccmnbiabGreatDoorG08
set_option linter.unusedVariables false
set_option linter.unusedSimpArgs false
namespace Go.Proofs.YtgifhgnccmnbiabGreatDoor

inductive D (t : ByteArray) : Nat → Nat → PS → Nat × PS → Prop
  | pattern {cur st r1 r} : D t 1 0 st r1 → D t 4 r1.1 r1.2 r → D t 0 cur st r
  | empty {cur st} : endS t st.1 = true → D t 1 cur st (addS { kind := 0, size := 1 } st)
  | branch {cur st r1 r} : endS t st.1 = false → D t 2 0 st r1 → D t 5 r1.1 r1.2 r → D t 1 cur st r
  | piece {cur st r1 r} : D t 3 0 st r1 → D t 6 r1.1 r1.2 r → D t 2 cur st r
  | group {cur st r1} : (nextS t st.1).1 = 40 → D t 0 0 ((nextS t st.1).2, st.2) r1 → D t 3 cur st (closeS t r1)
  | list {cur st} : (nextS t st.1).1 = 91 → D t 3 cur st (listS t ((nextS t st.1).2, st.2))
  | plain {cur st} : (nextS t st.1).1 ≠ 40 → (nextS t st.1).1 ≠ 91 → D t 3 cur st (plainS t (nextS t st.1).1 ((nextS t st.1).2, st.2))
  | or {cur st r1 r} : (takeS t 124 st.1).1 = true → D t 1 0 ((takeS t 124 st.1).2, st.2) r1 → D t 4 (joinS 5 cur r1.1 r1.2).1 (joinS 5 cur r1.1 r1.2).2 r → D t 4 cur st r
  | orEnd {cur st} : (takeS t 124 st.1).1 = false → D t 4 cur st (cur, st)
  | and {cur st r1 r} : endS t st.1 = false → D t 2 0 st r1 → D t 5 (joinS 4 cur r1.1 r1.2).1 (joinS 4 cur r1.1 r1.2).2 r → D t 5 cur st r
  | andEnd {cur st} : endS t st.1 = true → D t 5 cur st (cur, st)
  | rep {cur st r} : repS t st.1 = true → D t 6 (againS cur (repeatS t st.1).1 ((repeatS t st.1).2, st.2)).1 (againS cur (repeatS t st.1).1 ((repeatS t st.1).2, st.2)).2 r → D t 6 cur st r
  | repEnd {cur st} : repS t st.1 = false → D t 6 cur st (cur, st)

/-- The tag alone decides whether the first argument counts. -/
def curOf (tag cur : Nat) : Nat := if 4 ≤ tag then cur else 0
theorem D.ev {t : ByteArray} {tag cur : Nat} {st : PS} {r : Nat × PS} (h : D t tag cur st r) : Ev t tag (curOf tag cur) st r := by
  induction h with
  | pattern _ _ a b => exact Ev.pattern a b
  | empty he => exact Ev.empty he
  | branch he _ _ a b => exact Ev.branch he a b
  | piece _ _ a b => exact Ev.piece a b
  | group he _ a => exact Ev.group he a
  | list he => exact Ev.list he
  | plain h1 h2 => exact Ev.plain h1 h2
  | or he _ _ a b => exact Ev.or he a b
  | orEnd he => exact Ev.orEnd he
  | and he _ _ a b => exact Ev.and he a b
  | andEnd he => exact Ev.andEnd he
  | rep he _ a => exact Ev.rep he a
  | repEnd he => exact Ev.repEnd he

/-- Where a step ends. -/
structure Fw (t : ByteArray) (st : PS) (r : Nat × PS) : Prop where
  fit : Fits t r.2.1
  ge : st.1.1 ≤ r.2.1.1
def Has (t : ByteArray) (tag cur : Nat) (st : PS) : Prop := ∃ r, D t tag cur st r ∧ Fw t st r
def HasGt (t : ByteArray) (tag cur : Nat) (st : PS) : Prop := ∃ r, D t tag cur st r ∧ Fw t st r ∧ st.1.1 < r.2.1.1

theorem list_fw {t : ByteArray} {st : PS} (h : Fits t st.1) : Fw t st (listS t st) := by
  have h1 := fits_take (t := t) (c := 94) (by omega) h
  have g1 := take_ge (t := t) (c := 94) (s := st.1)
  have hfI : ∀ (f : Nat) (s : RS) (acc : List (Int × Int)), Fits t s → Fits t (itemsF t f s acc).2 := by
    intro f
    induction f with
    | zero => intro s acc h; exact h
    | succ f ih =>
      intro s acc h
      rw [itemsF]
      split
      · exact ih _ _ (fits_item h)
      · exact h
  have h2 : Fits t (itemsS t (takeS t 94 st.1).2 []).2 := hfI _ _ _ h1
  have g2 := itemsS_ge (t := t) (s := (takeS t 94 st.1).2) (acc := []) h1
  have h3 := fits_take (t := t) (c := 93) (by omega) h2
  have g3 := take_ge (t := t) (c := 93) (s := (itemsS t (takeS t 94 st.1).2 []).2)
  unfold listS
  simp only [addS]
  split
  · exact ⟨fits_fail t, h⟩
  · exact ⟨h3, by simp only []; omega⟩
theorem plain_fw {t : ByteArray} {c : Int} {st : PS} (h : Fits t st.1) : Fw t st (plainS t c st) := by
  have h1 := fits_next h
  have g1 := next_ge h
  unfold plainS bytesS addS
  repeat' split
  all_goals first | exact ⟨h, Nat.le_refl _⟩ | exact ⟨h1, g1⟩ | exact ⟨fits_fail t, h⟩
theorem close_fw {t : ByteArray} {st : PS} {r : Nat × PS} (h : Fw t st r) : Fw t st (closeS t r) := by
  have h3 := fits_take (t := t) (c := 41) (by omega) h.fit
  have g3 := take_ge (t := t) (c := 41) (s := r.2.1)
  have := h.ge
  have := h.fit
  unfold closeS
  split
  · exact ⟨h3, by simp only []; omega⟩
  · exact ⟨fits_fail t, by simp only [failS]; simp only [Fits] at this; omega⟩

section
variable {t : ByteArray}
/-- The state that holds below m: all that begins with fewer than m bytes left comes to an end. -/
def Below' (t : ByteArray) (m : Nat) : Prop := ∀ st : PS, Fits t st.1 → t.size - st.1.1 < m →
  (∀ cur, Has t 0 cur st) ∧ (∀ cur, Has t 1 cur st) ∧ (st.1.1 < t.size → ∀ cur, HasGt t 2 cur st ∧ HasGt t 3 cur st) ∧ (∀ cur, Has t 4 cur st) ∧ (∀ cur, Has t 5 cur st) ∧ (∀ cur, Has t 6 cur st)

theorem below_step {m : Nat} (ih : Below' t m) : Below' t (m + 1) := by
  intro st hf hm
  have rep : ∀ cur, Has t 6 cur st := fun cur => by
    cases hr : repS t st.1 with
    | false => exact ⟨_, D.repEnd hr, hf, Nat.le_refl _⟩
    | true =>
      have hlt := repS_lt hr
      have hgt := repeat_gt hlt
      have hfr := fits_repeat hf
      obtain ⟨r, d, f⟩ := (ih (againS cur (repeatS t st.1).1 ((repeatS t st.1).2, st.2)).2 hfr (by show t.size - (repeatS t st.1).2.1 < m; omega)).2.2.2.2.2 (againS cur (repeatS t st.1).1 ((repeatS t st.1).2, st.2)).1
      exact ⟨r, D.rep hr d, f.fit, by have := f.ge; simp only [againS, addS] at this; omega⟩
  have atom : st.1.1 < t.size → ∀ cur, HasGt t 3 cur st := fun hlt cur => by
    have hgt := next_gt hlt
    have hfn := fits_next (t := t) (s := st.1) hf
    by_cases h1 : (nextS t st.1).1 = 40
    · obtain ⟨r, d, f⟩ := (ih ((nextS t st.1).2, st.2) hfn (by show t.size - (nextS t st.1).2.1 < m; omega)).1 0
      have f2 := close_fw f
      exact ⟨_, D.group h1 d, ⟨f2.fit, by have := f2.ge; simp only [] at this; omega⟩, by have := f2.ge; simp only [] at this; omega⟩
    · by_cases h2 : (nextS t st.1).1 = 91
      · have f2 := list_fw (t := t) (st := ((nextS t st.1).2, st.2)) hfn
        exact ⟨_, D.list h2, ⟨f2.fit, by have := f2.ge; simp only [] at this; omega⟩, by have := f2.ge; simp only [] at this; omega⟩
      · have f2 := plain_fw (t := t) (c := (nextS t st.1).1) (st := ((nextS t st.1).2, st.2)) hfn
        exact ⟨_, D.plain h1 h2, ⟨f2.fit, by have := f2.ge; simp only [] at this; omega⟩, by have := f2.ge; simp only [] at this; omega⟩
  have piece : st.1.1 < t.size → ∀ cur, HasGt t 2 cur st := fun hlt cur => by
    obtain ⟨r1, d1, f1, g1⟩ := atom hlt 0
    obtain ⟨r, d, f⟩ := (ih r1.2 f1.fit (by omega)).2.2.2.2.2 r1.1
    exact ⟨r, D.piece d1 d, ⟨f.fit, Nat.le_trans f1.ge f.ge⟩, by have := f.ge; omega⟩
  have more : ∀ cur, Has t 5 cur st := fun cur => by
    cases he : endS t st.1 with
    | true => exact ⟨_, D.andEnd he, hf, Nat.le_refl _⟩
    | false =>
      have hlt := endS_lt he
      obtain ⟨r1, d1, f1, g1⟩ := piece hlt 0
      obtain ⟨r, d, f⟩ := (ih (joinS 4 cur r1.1 r1.2).2 f1.fit (by show t.size - r1.2.1.1 < m; omega)).2.2.2.2.1 (joinS 4 cur r1.1 r1.2).1
      exact ⟨r, D.and he d1 d, ⟨f.fit, Nat.le_trans f1.ge f.ge⟩⟩
  have branch : ∀ cur, Has t 1 cur st := fun cur => by
    cases he : endS t st.1 with
    | true => exact ⟨_, D.empty he, hf, Nat.le_refl _⟩
    | false =>
      have hlt := endS_lt he
      obtain ⟨r1, d1, f1, g1⟩ := piece hlt 0
      obtain ⟨r, d, f⟩ := (ih r1.2 f1.fit (by omega)).2.2.2.2.1 r1.1
      exact ⟨r, D.branch he d1 d, ⟨f.fit, Nat.le_trans f1.ge f.ge⟩⟩
  have alts : ∀ cur, Has t 4 cur st := fun cur => by
    cases he : (takeS t 124 st.1).1 with
    | false => exact ⟨_, D.orEnd he, hf, Nat.le_refl _⟩
    | true =>
      have hgt := take_gt he
      have hft := fits_take (t := t) (c := 124) (by omega) hf
      obtain ⟨r1, d1, f1⟩ := (ih ((takeS t 124 st.1).2, st.2) hft (by show t.size - (takeS t 124 st.1).2.1 < m; have : (takeS t 124 st.1).2.1 ≤ t.size := hft; omega)).2.1 0
      have g1 := f1.ge
      simp only [] at g1
      obtain ⟨r, d, f⟩ := (ih (joinS 5 cur r1.1 r1.2).2 f1.fit (by show t.size - r1.2.1.1 < m; have : r1.2.1.1 ≤ t.size := f1.fit; have : (takeS t 124 st.1).2.1 ≤ t.size := hft; omega)).2.2.2.1 (joinS 5 cur r1.1 r1.2).1
      exact ⟨r, D.or he d1 d, ⟨f.fit, by have := f.ge; simp only [joinS, addS] at this; omega⟩⟩
  refine ⟨fun cur => ?_, branch, fun h cur => ⟨piece h cur, atom h cur⟩, alts, more, rep⟩
  obtain ⟨r1, d1, f1⟩ := branch 0
  by_cases hsame : r1.2.1.1 = st.1.1
  · -- nothing read yet: what follows has as many bytes left
    have alts1 : Has t 4 r1.1 r1.2 := by
      cases he : (takeS t 124 r1.2.1).1 with
      | false => exact ⟨_, D.orEnd he, f1.fit, Nat.le_refl _⟩
      | true =>
        have hgt := take_gt he
        have hft := fits_take (t := t) (c := 124) (by omega) f1.fit
        obtain ⟨r2, d2, f2⟩ := (ih ((takeS t 124 r1.2.1).2, r1.2.2) hft (by show t.size - (takeS t 124 r1.2.1).2.1 < m; have : (takeS t 124 r1.2.1).2.1 ≤ t.size := hft; omega)).2.1 0
        have g2 := f2.ge
        simp only [] at g2
        obtain ⟨r, d, f⟩ := (ih (joinS 5 r1.1 r2.1 r2.2).2 f2.fit (by show t.size - r2.2.1.1 < m; have : r2.2.1.1 ≤ t.size := f2.fit; have : (takeS t 124 r1.2.1).2.1 ≤ t.size := hft; omega)).2.2.2.1 (joinS 5 r1.1 r2.1 r2.2).1
        exact ⟨r, D.or he d2 d, ⟨f.fit, by have := f.ge; simp only [joinS, addS] at this; omega⟩⟩
    obtain ⟨r, d, f⟩ := alts1
    exact ⟨r, D.pattern d1 d, f.fit, Nat.le_trans f1.ge f.ge⟩
  · have hlt : st.1.1 < r1.2.1.1 := by have := f1.ge; omega
    obtain ⟨r, d, f⟩ := (ih r1.2 f1.fit (by have : r1.2.1.1 ≤ t.size := f1.fit; omega)).2.2.2.1 r1.1
    exact ⟨r, D.pattern d1 d, f.fit, Nat.le_trans f1.ge f.ge⟩
theorem below_all : ∀ m, Below' t m
  | 0 => fun _ _ h => by omega
  | m + 1 => below_step (below_all m)
end

/-- THE READER's OUTCOME HAS A DERIVATION. -/
theorem Ev.deriv {t : ByteArray} {st : PS} {r : Nat × PS} (hf : Fits t st.1) (h : Ev t 0 0 st r) : D t 0 0 st r := by
  obtain ⟨r', d, _⟩ := (below_all (t := t) (t.size - st.1.1 + 1) st hf (by omega)).1 0
  have := Ev.one h d.ev
  subst this
  exact d

end Go.Proofs.YtgifhgnccmnbiabGreatDoor

set_option linter.unusedVariables false
set_option linter.unusedSimpArgs false
namespace Go.Proofs.YtgifhgnccmnbiabGreatDoor

/-- What a node at place q is. -/
def NodeOk (ns : List AN) (q : Nat) (n : AN) : Prop :=
  1 ≤ n.size ∧ n.size ≤ 61 ∧ n.its.length ≤ 1000 ∧
  (((n.kind = 0 ∨ n.kind = 1 ∨ n.kind = 2 ∨ n.kind = 3) ∧ n.left = 0 ∧ n.right = 0 ∧ n.size = 1) ∨
   ((n.kind = 4 ∨ n.kind = 5) ∧ ∃ l r : Nat, l < q ∧ r < q ∧ n.left = (l : Int) ∧ n.right = (r : Int) ∧ n.size = (if 61 < sizeAt ns l + sizeAt ns r then 61 else sizeAt ns l + sizeAt ns r)) ∨
   (n.kind = 6 ∧ ∃ l : Nat, l < q ∧ n.left = (l : Int) ∧ n.right = 0 ∧ 0 ≤ n.least ∧ n.least ≤ 9 ∧ -1 ≤ n.most ∧ n.most ≤ 9 ∧ (n.most = -1 ∨ n.least ≤ n.most) ∧ n.size = (if 61 < sizeAt ns l * timesS n.least n.most then 61 else sizeAt ns l * timesS n.least n.most)))
def NodesOk (ns : List AN) : Prop := ∀ q n, ns[q]? = some n → NodeOk ns q n

theorem sizeN_app {ns more : List AN} {i : Nat} (h : i < ns.length) : sizeAt (ns ++ more) i = sizeAt ns i := by
  unfold sizeAt; rw [List.getElem?_append_left h]
theorem sizeN_new (ns : List AN) (n : AN) : sizeAt (ns ++ [n]) ns.length = n.size := by
  unfold sizeAt; simp
theorem NodeOk.app {ns more : List AN} {q : Nat} {n : AN} (h : NodeOk ns q n) (hq : q ≤ ns.length) : NodeOk (ns ++ more) q n := by
  obtain ⟨h1, h2, h3, h4⟩ := h
  refine ⟨h1, h2, h3, ?_⟩
  rcases h4 with h4 | ⟨hk, l, r, a, b, c, d, e⟩ | ⟨hk, l, a, b, c⟩
  · exact Or.inl h4
  · exact Or.inr (Or.inl ⟨hk, l, r, a, b, c, d, by rw [sizeN_app (by omega), sizeN_app (by omega)]; exact e⟩)
  · exact Or.inr (Or.inr ⟨hk, l, a, b, by rw [sizeN_app (by omega)]; exact c⟩)
theorem NodesOk.snoc {ns : List AN} {n : AN} (h : NodesOk ns) (hn : NodeOk ns ns.length n) : NodesOk (ns ++ [n]) := by
  intro q m hm
  by_cases hq : q < ns.length
  · rw [List.getElem?_append_left hq] at hm
    exact (h q m hm).app (by omega)
  · have hl := (List.getElem?_eq_some_iff.1 hm).1
    simp at hl
    obtain rfl : q = ns.length := by omega
    rw [List.getElem?_append_right (Nat.le_refl _), Nat.sub_self] at hm
    simp at hm
    subst hm
    exact hn.app (Nat.le_refl _)
theorem NodesOk.size {ns : List AN} (h : NodesOk ns) {i : Nat} (hi : i < ns.length) : 1 ≤ sizeAt ns i ∧ sizeAt ns i ≤ 61 := by
  unfold sizeAt
  obtain ⟨n, hn⟩ : ∃ n, ns[i]? = some n := ⟨_, List.getElem?_eq_getElem hi⟩
  rw [hn]
  exact ⟨(h i n hn).1, (h i n hn).2.1⟩

/-- What a step makes of the list. -/
structure Gr (tag cur : Nat) (st : PS) (r : Nat × PS) : Prop where
  ok : NodesOk r.2.2
  app : ∃ more, r.2.2 = st.2 ++ more
  top : r.1 + 1 = r.2.2.length
  big : ∀ i, st.2.length ≤ i → i < r.2.2.length → sizeAt r.2.2 i ≤ sizeAt r.2.2 r.1
  cur : 4 ≤ tag → sizeAt st.2 cur ≤ sizeAt r.2.2 r.1

theorem leaf_gr {tag cur : Nat} {s0 : RS} {s : RS} {ns : List AN} (n : AN) (hs : n.size = 1) (h : NodesOk ns) (hk : n.kind = 0 ∨ n.kind = 1 ∨ n.kind = 2 ∨ n.kind = 3) (h1 : n.left = 0) (h2 : n.right = 0) (h3 : n.its.length ≤ 1000) (ht : ¬ 4 ≤ tag) :
    Gr tag cur (s0, ns) (addS n (s, ns)) := by
  have hc : capN n = n := by unfold capN; rw [hs]; rw [if_neg (by omega)]; rw [← hs]
  refine ⟨?_, ⟨[capN n], rfl⟩, by simp [addS], fun i hi hl => ?_, fun hc => absurd hc ht⟩
  · show NodesOk (ns ++ [capN n])
    rw [hc]
    exact h.snoc ⟨by omega, by omega, h3, Or.inl ⟨hk, h1, h2, hs⟩⟩
  · simp [addS] at hl
    obtain rfl : i = ns.length := by simp at hi; omega
    exact Int.le_refl _

theorem cap_le {a b : Int} (h : a ≤ b) (h61 : a ≤ 61) : a ≤ (if 61 < b then 61 else b) := by split <;> omega

/-- A node out of others, laid behind the list. -/
theorem join_ok {kind : Int} {cur j : Nat} {s : RS} {ns : List AN} (hk : kind = 4 ∨ kind = 5) (h : NodesOk ns) (hc : cur < ns.length) (hj : j < ns.length) :
    NodesOk (joinS kind cur j (s, ns)).2.2 ∧ (joinS kind cur j (s, ns)).1 + 1 = (joinS kind cur j (s, ns)).2.2.length ∧
    sizeAt ns cur ≤ sizeAt (joinS kind cur j (s, ns)).2.2 (joinS kind cur j (s, ns)).1 ∧ sizeAt ns j ≤ sizeAt (joinS kind cur j (s, ns)).2.2 (joinS kind cur j (s, ns)).1 := by
  have h1 := h.size hc
  have h2 := h.size hj
  have e : sizeAt (joinS kind cur j (s, ns)).2.2 (joinS kind cur j (s, ns)).1 = (if 61 < sizeAt ns cur + sizeAt ns j then 61 else sizeAt ns cur + sizeAt ns j) := by
    simp only [joinS, addS]; rw [sizeN_new]; rfl
  refine ⟨h.snoc ⟨?_, ?_, by show (0 : Nat) ≤ 1000; omega, Or.inr (Or.inl ⟨hk, cur, j, hc, hj, rfl, rfl, rfl⟩)⟩, by simp [joinS, addS], ?_, ?_⟩
  · simp only [capN]; split <;> omega
  · simp only [capN]; split <;> omega
  · rw [e]; exact cap_le (by omega) (by omega)
  · rw [e]; exact cap_le (by omega) (by omega)

theorem repeat_le (t : ByteArray) (s : RS) : (repeatS t s).1.2 = -1 ∨ (repeatS t s).1.1 ≤ (repeatS t s).1.2 := by
  unfold repeatS
  repeat' split
  · exact Or.inl rfl
  · exact Or.inl rfl
  · right; simp
  · unfold bracesS
    split
    · right; simp
    · rename_i h
      simp only []
      by_cases hm : (mostS t (nextS t s).2).1 = -1
      · exact Or.inl hm
      · right
        have : ¬ ((mostS t (nextS t s).2).1 ≠ -1 ∧ (mostS t (nextS t s).2).1 < (digS t (nextS t s).2).1) := fun hc => h (Or.inr hc)
        omega

theorem times_pos (a b : Int) : 1 ≤ timesS a b := by
  unfold timesS; repeat' split
  all_goals omega
theorem mul_ge {a b : Int} (ha : 1 ≤ a) (hb : 1 ≤ b) : a ≤ a * b := by
  have := Int.mul_le_mul_of_nonneg_left hb (by omega : (0 : Int) ≤ a)
  omega
theorem again_ok {cur : Nat} {s : RS} {ns : List AN} {lm : Int × Int} (h : NodesOk ns) (hc : cur < ns.length) (hb : 0 ≤ lm.1 ∧ lm.1 ≤ 9 ∧ -1 ≤ lm.2 ∧ lm.2 ≤ 9) (hle : lm.2 = -1 ∨ lm.1 ≤ lm.2) :
    NodesOk (againS cur lm (s, ns)).2.2 ∧ (againS cur lm (s, ns)).1 + 1 = (againS cur lm (s, ns)).2.2.length ∧
    sizeAt ns cur ≤ sizeAt (againS cur lm (s, ns)).2.2 (againS cur lm (s, ns)).1 := by
  have h1 := h.size hc
  have hm := mul_ge h1.1 (times_pos lm.1 lm.2)
  have e : sizeAt (againS cur lm (s, ns)).2.2 (againS cur lm (s, ns)).1 = (if 61 < sizeAt ns cur * timesS lm.1 lm.2 then 61 else sizeAt ns cur * timesS lm.1 lm.2) := by
    simp only [againS, addS]; rw [sizeN_new]; rfl
  refine ⟨h.snoc ⟨?_, ?_, by show (0 : Nat) ≤ 1000; omega, Or.inr (Or.inr ⟨rfl, cur, hc, rfl, rfl, hb.1, hb.2.1, hb.2.2.1, hb.2.2.2, hle, rfl⟩)⟩, by simp [againS, addS], ?_⟩
  · simp only [capN]; split <;> omega
  · simp only [capN]; split <;> omega
  · rw [e]; exact cap_le hm (by omega)

theorem items_len (t : ByteArray) : ∀ (f : Nat) (s : RS) (acc : List (Int × Int)), (itemsF t f s acc).1.length ≤ acc.length + f
  | 0, s, acc => Nat.le_refl _
  | f + 1, s, acc => by
    rw [itemsF]
    split
    · have := items_len t f (itemS t s).2 (acc ++ [(itemS t s).1])
      simp at this
      omega
    · exact Nat.le_add_right _ _

theorem Gr.refl {tag cur : Nat} {st : PS} (h : NodesOk st.2) (hc : cur + 1 = st.2.length) : Gr tag cur st (cur, st) :=
  ⟨h, ⟨[], by simp⟩, hc, fun i h1 h2 => by simp only [] at h2; omega, fun _ => Int.le_refl _⟩
theorem Gr.comp {ta ca tb cb t c : Nat} {st stb : PS} {r1 r : Nat × PS} {extra : List AN} (ga : Gr ta ca st r1) (gb : Gr tb cb stb r) (he : stb.2 = r1.2.2 ++ extra)
    (hx : ∀ i, r1.2.2.length ≤ i → i < stb.2.length → sizeAt stb.2 i ≤ sizeAt stb.2 cb) (hc : sizeAt r1.2.2 r1.1 ≤ sizeAt stb.2 cb) (htb : 4 ≤ tb) (hcur : 4 ≤ t → sizeAt st.2 c ≤ sizeAt stb.2 cb) : Gr t c st r := by
  obtain ⟨m1, e1⟩ := ga.app
  obtain ⟨m2, e2⟩ := gb.app
  have hcb := gb.cur htb
  refine ⟨gb.ok, ⟨m1 ++ extra ++ m2, by rw [e2, he, e1]; simp⟩, gb.top, fun i h1 h2 => ?_, fun h => Int.le_trans (hcur h) hcb⟩
  by_cases hi : i < r1.2.2.length
  · have h3 := ga.big i h1 hi
    have h4 : sizeAt r.2.2 i = sizeAt r1.2.2 i := by rw [e2, he, List.append_assoc, sizeN_app hi]
    rw [h4]
    exact Int.le_trans h3 (Int.le_trans hc hcb)
  · by_cases hj : i < stb.2.length
    · have h3 := hx i (by omega) hj
      have h4 : sizeAt r.2.2 i = sizeAt stb.2 i := by rw [e2, sizeN_app hj]
      rw [h4]
      exact Int.le_trans h3 hcb
    · exact gb.big i (by omega) h2

/-- WHAT THE READER MAKES OF THE LIST. -/
theorem D.gr {t : ByteArray} (ht : t.size ≤ 1000) {tag cur : Nat} {st : PS} {r : Nat × PS} (h : D t tag cur st r) : NodesOk st.2 → (4 ≤ tag → cur + 1 = st.2.length) → Gr tag cur st r := by
  induction h with
  | pattern _ _ a b =>
    intro hn _
    have g1 := a hn (fun h => by omega)
    have g2 := b g1.ok (fun _ => g1.top)
    exact g1.comp (extra := []) g2 (by simp) (fun i h1 h2 => by omega) (Int.le_refl _) (by omega) (fun h => by omega)
  | empty he => intro hn _; exact leaf_gr _ rfl hn (Or.inl rfl) rfl rfl (Nat.zero_le _) (by omega)
  | branch he _ _ a b =>
    intro hn _
    have g1 := a hn (fun h => by omega)
    have g2 := b g1.ok (fun _ => g1.top)
    exact g1.comp (extra := []) g2 (by simp) (fun i h1 h2 => by omega) (Int.le_refl _) (by omega) (fun h => by omega)
  | piece _ _ a b =>
    intro hn _
    have g1 := a hn (fun h => by omega)
    have g2 := b g1.ok (fun _ => g1.top)
    exact g1.comp (extra := []) g2 (by simp) (fun i h1 h2 => by omega) (Int.le_refl _) (by omega) (fun h => by omega)
  | group he _ a =>
    intro hn _
    have g1 := a hn (fun h => by omega)
    exact ⟨g1.ok, g1.app, g1.top, g1.big, fun h => by omega⟩
  | @list cur st he =>
    intro hn _
    refine leaf_gr _ rfl hn (Or.inr (Or.inl rfl)) rfl rfl ?_ (by omega)
    have := items_len t (t.size - (takeS t 94 (nextS t st.1).2).2.1) (takeS t 94 (nextS t st.1).2).2 []
    show (itemsS t (takeS t 94 (nextS t st.1).2).2 []).1.length ≤ 1000
    unfold itemsS
    simp only [List.length_nil] at this
    omega
  | plain h1 h2 =>
    intro hn _
    unfold plainS bytesS
    repeat' split
    all_goals first
      | exact leaf_gr _ rfl hn (Or.inr (Or.inl rfl)) rfl rfl (by show (1 : Nat) ≤ 1000; omega) (by omega)
      | exact leaf_gr _ rfl hn (Or.inr (Or.inr (Or.inl rfl))) rfl rfl (Nat.zero_le _) (by omega)
      | exact leaf_gr _ rfl hn (Or.inr (Or.inr (Or.inr rfl))) rfl rfl (Nat.zero_le _) (by omega)
  | @or cur st r1 r he _ _ a b =>
    intro hn hc
    have hc := hc (by omega)
    have g0 := a hn (fun h => by omega)
    have g1 : Gr 1 0 st r1 := ⟨g0.ok, g0.app, g0.top, g0.big, fun h => by omega⟩
    obtain ⟨m1, e1⟩ := g1.app
    have hl : st.2.length ≤ r1.2.2.length := by rw [e1]; simp
    have ht1 := g1.top
    obtain ⟨j1, j2, j3, j4⟩ := join_ok (kind := 5) (s := r1.2.1) (Or.inr rfl) g1.ok (cur := cur) (j := r1.1) (by omega) (by omega)
    have g2 := b j1 (fun _ => j2)
    refine g1.comp g2 rfl (fun i h1 h2 => ?_) j4 (by omega) (fun _ => ?_)
    · simp only [joinS, addS, List.length_append, List.length_singleton] at h2
      obtain rfl : i = r1.2.2.length := by omega
      exact Int.le_refl _
    · have e : sizeAt r1.2.2 cur = sizeAt st.2 cur := by rw [e1, sizeN_app (by omega)]
      rw [← e]; exact j3
  | orEnd he => intro hn hc; exact Gr.refl hn (hc (by omega))
  | @and cur st r1 r he _ _ a b =>
    intro hn hc
    have hc := hc (by omega)
    have g1 := a hn (fun h => by omega)
    obtain ⟨m1, e1⟩ := g1.app
    have hl : st.2.length ≤ r1.2.2.length := by rw [e1]; simp
    have ht1 := g1.top
    obtain ⟨j1, j2, j3, j4⟩ := join_ok (kind := 4) (s := r1.2.1) (Or.inl rfl) g1.ok (cur := cur) (j := r1.1) (by omega) (by omega)
    have g2 := b j1 (fun _ => j2)
    refine g1.comp g2 rfl (fun i h1 h2 => ?_) j4 (by omega) (fun _ => ?_)
    · simp only [joinS, addS, List.length_append, List.length_singleton] at h2
      obtain rfl : i = r1.2.2.length := by omega
      exact Int.le_refl _
    · have e : sizeAt r1.2.2 cur = sizeAt st.2 cur := by rw [e1, sizeN_app (by omega)]
      rw [← e]; exact j3
  | andEnd he => intro hn hc; exact Gr.refl hn (hc (by omega))
  | @rep cur st r he _ a =>
    intro hn hc
    have hc := hc (by omega)
    obtain ⟨j1, j2, j3⟩ := again_ok (cur := cur) (s := (repeatS t st.1).2) (lm := (repeatS t st.1).1) hn (by omega) (repeat_bd t st.1) (repeat_le t st.1)
    have g2 := a j1 (fun _ => j2)
    refine (Gr.refl (tag := 6) hn hc).comp g2 rfl (fun i h1 h2 => ?_) j3 (by omega) (fun _ => j3)
    simp only [againS, addS, List.length_append, List.length_singleton] at h2
    simp only [] at h1
    obtain rfl : i = st.2.length := by omega
    exact Int.le_refl _
  | repEnd he => intro hn hc; exact Gr.refl hn (hc (by omega))

end Go.Proofs.YtgifhgnccmnbiabGreatDoor

set_option linter.unusedVariables false
set_option linter.unusedSimpArgs false
namespace Go.Proofs.YtgifhgnccmnbiabGreatDoor
open Go.RowKit Go.IntWalk

theorem into_zero (m : MP) (S : B64) : ∀ q, intoQ m 0#64 S q = 0#64
  | 0 => rfl
  | q + 1 => by rw [intoQ, if_pos (by simp), into_zero m S q]
theorem enough_zero (m : MP) (X : B64) : ∀ q, enoughQ m 0#64 X q = X
  | 0 => rfl
  | q + 1 => by
    rw [enoughQ, enough_zero m X q]
    unfold intoP
    rw [into_zero]
    simp

set_option maxHeartbeats 2000000 in
set_option maxRecDepth 100000 in
theorem enoughBy_any (m : MP) (g : Nat) (free : B64) (w : World) (h : MIn w g m) :
    Calls Tryz.prog 142 #[.pointer (some ⟨g, 0, none⟩), .int .u64 (free.toNat : Int)] w fun e w' => e = .returned (.int .u64 ((enoughP m free).toNat : Int)) ∧ Kept [] w w' := by
  have hg : g < w.heap.size := Blk.lt h
  have c0 := h.last
  have ho := or_u m.last foundB
  rw [foundB_nat] at ho
  have e0 : Hid (enoughP m free = enoughQ m free (m.last ||| foundB) 60) := rfl
  have hI : Hid (MIn (w.alloc (.cells #[.pointer (some ⟨g, 2, none⟩), UV free] 167)) g m) := Blk.alloc h _
  have hB : Hid (Blk (w.alloc (.cells #[.pointer (some ⟨g, 2, none⟩), UV free] 167)) w.heap.size #[.pointer (some ⟨g, 2, none⟩), UV free] 167) := Blk.new w _ _
  have hK : Hid (Kept [] w (w.alloc (.cells #[.pointer (some ⟨g, 2, none⟩), UV free] 167))) := (Kept.refl [] w).alloc _
  generalize m.last ||| foundB = X at *
  clear h
  go_enter Tryz.func142, Tryz.ntmps142
  go_wp2_with fail
  go_loopw [6, 7] (fun ev iv wr => ∃ q : Nat, ev = .int .u64 ((enoughQ m free X q).toNat : Int) ∧ iv = .int .i64 (q : Int) ∧ q ≤ 60 ∧ MIn wr g m ∧ Blk wr w.heap.size #[.pointer (some ⟨g, 2, none⟩), UV free] 167 ∧ Kept [] w wr) (fun _ iv _ => (60 - intOf iv).toNat)
  case atStart => exact ⟨0, rfl, rfl, by omega, hI.out, hB.out, hK.out⟩
  case round =>
    obtain ⟨q, rfl, rfl, hq, hI1, hB1, hK1⟩ := hrel
    clear hI hB hK
    by_cases hlt : (q : Int) < 60
    · by_cases hf : free = 0#64
      · have hf0 : (free.toNat : Int) = 0 := (u_zero _).2 hf
        have e1 : Hid (enoughP m free = enoughQ m free X q) := by show enoughP m free = _; rw [e0.out, hf, enough_zero, enough_zero]
        have hKH : Hid (Kept _ _ _) := hK1
        clear hf e0 hI1 hB1 hK1
        generalize enoughQ m free X q = Y at *
        go_wp2
        go_ret
        exact ⟨by rw [e1.out]; rfl, hKH.out⟩
      · have hf0 : (free.toNat : Int) ≠ 0 := fun hc => hf ((u_zero _).1 hc)
        have hc : Hid (Calls _ _ _ wr _) := into_any m g 2 free (enoughQ m free X q) wr hI1.tab
        have hor := or_u (enoughQ m free X q) (intoP m free (enoughQ m free X q))
        have e1 : Hid (enoughQ m free X (q + 1) = enoughQ m free X q ||| intoP m free (enoughQ m free X q)) := rfl
        have d0 : wr.cell? ⟨w.heap.size, 0, none⟩ = some (.pointer (some ⟨g, 2, none⟩)) := hB1.cell 0
        have d1 : wr.cell? ⟨w.heap.size, 1, none⟩ = some (UV free) := hB1.cell 1
        have hI2 : Hid (MIn wr g m) := hI1
        have hB2 : Hid (Blk wr w.heap.size #[.pointer (some ⟨g, 2, none⟩), UV free] 167) := hB1
        have hK2 : Hid (Kept [] w wr) := hK1
        clear hf e0 hI1 hB1 hK1 ho c0
        generalize intoP m free (enoughQ m free X q) = V at *
        generalize enoughQ m free X q ||| V = Z at *
        go_wp2_with (go_at_call 182; refine hc.out.mono ?_; rintro _ w2 ⟨rfl, k2⟩)
        refine ⟨⟨q + 1, by rw [e1.out], by go_num, by omega, Blk.kept hI2.out k2 (by simp), hB2.out.kept k2 (by simp), hK2.out.trans k2⟩, ?_⟩
        simp only [intOf]; omega
    · have hqe : q = 60 := by omega
      subst hqe
      have hKH : Hid (Kept _ _ _) := hK1
      clear hI1 hB1 hK1
      go_wp2
      go_ret
      exact ⟨by rw [e0.out]; rfl, hKH.out⟩

set_option maxHeartbeats 4000000 in
set_option maxRecDepth 100000 in
theorem findEnds_any (m : MP) (g : Nat) (w : World) (h : MIn w g m) :
    Calls Tryz.prog 96 #[.pointer (some ⟨g, 0, none⟩)] w fun e w' => e = .returned (.tuple #[]) ∧ MIn w' g (begM m) ∧ Kept [g] w w' := by
  have hg : g < w.heap.size := Blk.lt h
  have c0 := h.begins
  have f0 := h.frozen 0
  have b0 := h.beg
  have hst : Hid (∀ o, MIn ((w.setCell ⟨g, 0, none⟩ (.int .u64 5764607523034234880)).alloc o).drew g { m with beg := begQ m 0 } ∧ Kept [g] w ((w.setCell ⟨g, 0, none⟩ (.int .u64 5764607523034234880)).alloc o).drew) := fun o =>
    ⟨MIn.drew' (Blk.alloc (MIn.set h 0 _ (m_set_beg m (begQ m 0))) o), ((((Kept.refl [g] w).setCell (Or.inl (by simp)) _).alloc o).drew)⟩
  have hwy : Hid (Blk ((w.setCell ⟨g, 0, none⟩ (.int .u64 5764607523034234880)).alloc (.cells #[.pointer (some ⟨g, 2, none⟩), UV m.begins] 167)).drew w.heap.size #[.pointer (some ⟨g, 2, none⟩), UV m.begins] 167) := by
    have h1 := Blk.new (w.setCell ⟨g, 0, none⟩ (.int .u64 5764607523034234880)) #[.pointer (some ⟨g, 2, none⟩), UV m.begins] 167
    have e : (w.setCell ⟨g, 0, none⟩ (.int .u64 5764607523034234880)).heap.size = w.heap.size := by simp
    rw [e] at h1
    exact h1.kept ((Kept.refl [] _).drew) (by simp)
  clear h
  go_enter Tryz.func96, Tryz.ntmps96
  go_wp2_with fail
  go_region
  go_wp2_with fail
  go_loopw [3] (fun iv wr => ∃ q : Nat, iv = .int .i64 (q : Int) ∧ q ≤ 60 ∧ MIn wr g { m with beg := begQ m q } ∧ Blk wr w.heap.size #[.pointer (some ⟨g, 2, none⟩), UV m.begins] 167 ∧ Kept [g] w wr) (fun iv _ => (60 - intOf iv).toNat)
  case atStart =>
    obtain ⟨h1, h2⟩ := hst.out (.cells #[.pointer (some ⟨g, 2, none⟩), UV m.begins] 167)
    exact ⟨0, rfl, by omega, h1, hwy.out, h2⟩
  case round =>
    obtain ⟨q, rfl, hq, hI, hB, hK⟩ := hrel
    clear hst hwy c0 f0 b0
    by_cases hlt : (q : Int) < 60
    · have hc : Hid (∀ w', Kept [] wr w' → Calls Tryz.prog 124 #[WV g 2 m.begins, .int .u64 ((begQ m q).toNat : Int)] w' fun e w2 => e = .returned (.int .u64 ((fromP m m.begins (begQ m q)).toNat : Int)) ∧ Kept [] w' w2) := fun w' k => from_any m g 2 m.begins (begQ m q) w' (TabAt.kept hI.tab k (Blk.lt hI))
      have hor := or_u (begQ m q) (fromP m m.begins (begQ m q))
      have e1 : Hid (begQ m (q + 1) = begQ m q ||| fromP m m.begins (begQ m q)) := rfl
      have d0 : wr.cell? ⟨w.heap.size, 0, none⟩ = some (.pointer (some ⟨g, 2, none⟩)) := hB.cell 0
      have d1 : wr.cell? ⟨w.heap.size, 1, none⟩ = some (UV m.begins) := hB.cell 1
      have b0 : wr.cell? ⟨g, 0, none⟩ = some (UV (begQ m q)) := hI.beg
      have hgr : g < wr.heap.size := Blk.lt hI
      have hIH : Hid (MIn _ _ _) := hI
      have hBH : Hid (Blk _ _ _ _) := hB
      have hKH : Hid (Kept _ _ _) := hK
      clear hI hB hK
      generalize fromP m m.begins (begQ m q) = V at *
      generalize begQ m q ||| V = Z at *
      go_wp2_with fail
      go_region_law (go_simp; go_at_call 124; refine (hc.out _ ((Kept.refl [] _).drew)).mono ?_; rintro _ w5 ⟨rfl, k5⟩; have K5 := ((Kept.refl [] wr).drew).trans k5; have r0 : w5.cell? ⟨g, 0, none⟩ = some (UV (begQ m q)) := (K5.cell hgr 0).trans b0; have q0 : w5.frozen? ⟨g, 0, none⟩ = false := (Blk.kept hIH.out K5 (by simp)).frozen 0)
      all_goals
        go_wp2
        refine ⟨⟨q + 1, by go_num, by omega, ?_, ?_, ?_⟩, ?_⟩
        · rw [e1.out]
          exact MIn.set (Blk.kept hIH.out K5 (by simp)) 0 _ (m_set_beg _ Z)
        · exact (hBH.out.kept K5 (by simp)).other _ _ (by omega)
        · exact (hKH.out.trans (K5.mono (by simp))).setCell (Or.inl (by simp)) _
        · simp only [intOf]; omega
    · have hqe : q = 60 := by omega
      subst hqe
      have hgr : g < wr.heap.size := Blk.lt hI
      have b0 : wr.cell? ⟨g, 0, none⟩ = some (UV (begP m)) := hI.beg
      have h1 : Hid (Calls Tryz.prog 142 #[.pointer (some ⟨g, 0, none⟩), .int .u64 (m.ends.toNat : Int)] wr fun e w2 => e = .returned (.int .u64 ((enoughP m m.ends).toNat : Int)) ∧ Kept [] wr w2) := by
        have := enoughBy_any { m with beg := begQ m 60 } g m.ends wr hI
        rw [enoughP_next (m := m) (m' := { m with beg := begQ m 60 }) rfl rfl] at this
        exact this
      have h2 : Hid (∀ w', MIn w' g { m with beg := begP m, en := enoughP m m.ends } → Calls Tryz.prog 142 #[.pointer (some ⟨g, 0, none⟩), .int .u64 ((m.ends ||| m.begins).toNat : Int)] w' fun e w2 => e = .returned (.int .u64 ((enoughP m (m.ends ||| m.begins)).toNat : Int)) ∧ Kept [] w' w2) := fun w' hi => by
        have := enoughBy_any { m with beg := begP m, en := enoughP m m.ends } g (m.ends ||| m.begins) w' hi
        rw [enoughP_next (m := m) (m' := { m with beg := begP m, en := enoughP m m.ends }) rfl rfl] at this
        exact this
      have hst : Hid (∀ w1, Kept [] wr w1 → MIn (w1.setCell ⟨g, 1, none⟩ (UV (enoughP m m.ends))) g { m with beg := begP m, en := enoughP m m.ends } ∧ Kept [g] wr (w1.setCell ⟨g, 1, none⟩ (UV (enoughP m m.ends)))) := fun w1 k =>
        ⟨(MIn.set (m := { m with beg := begQ m 60 }) (Blk.kept hI k (by simp)) 1 _ (m_set_en _ (enoughP m m.ends))), (k.mono (by simp)).setCell (Or.inl (by simp)) _⟩
      have hfin : Hid (begM m = { m with beg := begP m, en := if begP m &&& enoughP m (m.ends ||| m.begins) = 0#64 then enoughP m m.ends else enoughP m m.ends ||| freshB }) := rfl
      have hor := or_u m.ends m.begins
      have hand := and_u (begP m) (enoughP m (m.ends ||| m.begins))
      have hof := or_u (enoughP m m.ends) freshB
      rw [freshB_nat] at hof
      have c1 : wr.cell? ⟨g, 322, none⟩ = some (UV m.ends) := hI.ends
      have c2 : wr.cell? ⟨g, 321, none⟩ = some (UV m.begins) := hI.begins
      have c3 : wr.cell? ⟨g, 1, none⟩ = some (UV m.en) := hI.en
      have f1 : wr.frozen? ⟨g, 1, none⟩ = false := hI.frozen 1
      have hIH : Hid (MIn _ _ _) := hI
      have hKH : Hid (Kept _ _ _) := hK
      clear hI hB hK
      generalize m.ends ||| m.begins = EB at *
      generalize enoughP m EB = E2 at *
      generalize hE1 : enoughP m m.ends = E1 at *
      generalize E1 ||| freshB = EF at *
      generalize begP m = B0 at hfin b0 hst h2 hand
      generalize B0 &&& E2 = X at *
      clear hE1
      by_cases hX : X = 0#64
      · have hX0 : (X.toNat : Int) = 0 := (u_zero _).2 hX
        rw [if_pos hX] at hfin
        clear hX hof
        go_wp2_with (go_at_call 142; refine h1.out.mono ?_; rintro _ w1 ⟨rfl, k1⟩; have r0 := (k1.cell hgr 0).trans b0; have r1 := (k1.cell hgr 1).trans c3; have r2 := (k1.cell hgr 322).trans c1; have r3 := (k1.cell hgr 321).trans c2; have q1 : w1.frozen? ⟨g, 1, none⟩ = false := (Blk.kept hIH.out k1 (by simp)).frozen 1; have s1 : Hid (_ ∧ _) := hst.out _ k1)
        go_region_law (go_simp; go_at_call 142; refine (h2.out _ (MIn.drew' s1.out.1)).mono ?_; rintro _ w5 ⟨rfl, k5⟩; have K5 : Hid (MIn _ _ _ ∧ Kept _ _ _) := ⟨Blk.kept (MIn.drew' s1.out.1) k5 (by simp), s1.out.2.trans ((((Kept.refl [] _).drew).trans k5).mono (by simp))⟩; have r5 : w5.cell? ⟨g, 1, none⟩ = some (UV E1) := K5.out.1.en; have r6 : w5.cell? ⟨g, 0, none⟩ = some (UV B0) := K5.out.1.beg; have q5 : w5.frozen? ⟨g, 1, none⟩ = false := K5.out.1.frozen 1)
        all_goals
          go_wp2
          go_end0
          exact ⟨rfl, by rw [hfin.out]; exact K5.out.1, hKH.out.trans K5.out.2⟩
      · have hX0 : (X.toNat : Int) ≠ 0 := fun hc => hX ((u_zero _).1 hc)
        rw [if_neg hX] at hfin
        clear hX
        go_wp2_with (go_at_call 142; refine h1.out.mono ?_; rintro _ w1 ⟨rfl, k1⟩; have r0 := (k1.cell hgr 0).trans b0; have r1 := (k1.cell hgr 1).trans c3; have r2 := (k1.cell hgr 322).trans c1; have r3 := (k1.cell hgr 321).trans c2; have q1 : w1.frozen? ⟨g, 1, none⟩ = false := (Blk.kept hIH.out k1 (by simp)).frozen 1; have s1 : Hid (_ ∧ _) := hst.out _ k1)
        go_region_law (go_simp; go_at_call 142; refine (h2.out _ (MIn.drew' s1.out.1)).mono ?_; rintro _ w5 ⟨rfl, k5⟩; have K5 : Hid (MIn _ _ _ ∧ Kept _ _ _) := ⟨Blk.kept (MIn.drew' s1.out.1) k5 (by simp), s1.out.2.trans ((((Kept.refl [] _).drew).trans k5).mono (by simp))⟩; have r5 : w5.cell? ⟨g, 1, none⟩ = some (UV E1) := K5.out.1.en; have r6 : w5.cell? ⟨g, 0, none⟩ = some (UV B0) := K5.out.1.beg; have q5 : w5.frozen? ⟨g, 1, none⟩ = false := K5.out.1.frozen 1)
        all_goals
          go_wp2
          go_end0
          exact ⟨rfl, by rw [hfin.out]; exact MIn.set K5.out.1 1 _ (m_set_en _ EF), (hKH.out.trans K5.out.2).setCell (Or.inl (by simp)) _⟩

end Go.Proofs.YtgifhgnccmnbiabGreatDoor

set_option linter.unusedVariables false
set_option linter.unusedSimpArgs false
namespace Go.Proofs.YtgifhgnccmnbiabGreatDoor
open Go.RowKit Go.IntWalk

theorem nextM_set (m : MP) (q : Nat) (s : B64) (hq : q < 63) : (mCells m).setIfInBounds (2 + q) (UV s) = mCells (nextM m q s) :=
  m_set_next _ _ q s hq ⟨rfl, rfl⟩ rfl (fun _ _ => rfl) rfl rfl rfl

/-- A pattern's nodes in memory. -/
structure NodesIn (w : World) (B : Nat) (v : Value) (ns : List AN) (xs : List IV) : Prop where
  row : w.ownsRow B 164 8 v ns.length (nodesCells ns xs)
  len : xs.length = ns.length
  items : ∀ (i : Nat) (n : AN) (x : IV), ns[i]? = some n → xs[i]? = some x → ItemsOk w B x n.its
theorem row_kept0 {w w' : World} {B e z n : Nat} {v : Value} {ys : List Value} (h : w.ownsRow B e z v n ys) (k : Kept [] w w') : w'.ownsRow B e z v n ys := by
  refine ⟨h.1, ?_⟩
  rcases h.2 with h1 | ⟨g, cap, cur, h1, h2, h3, h4⟩
  · exact Or.inl h1
  · have hlt : g < w.heap.size := (Array.getElem?_eq_some_iff.1 h3).1
    exact Or.inr ⟨g, cap, cur, h1, h2, (k.block g hlt (by simp)).trans h3, h4⟩
theorem NodesIn.kept {w w' : World} {B : Nat} {v : Value} {ns : List AN} {xs : List IV} (h : NodesIn w B v ns xs) (k : Kept [] w w') : NodesIn w' B v ns xs :=
  ⟨row_kept0 h.row k, h.len, fun i n x a c => row_kept0 (h.items i n x a c) k⟩

theorem learnQ_whole (m : MP) (st : B64) (n : AN) (fold : Bool) : ∀ q, (learnQ m st n fold q).whole = m.whole := fun q => by
  unfold learnQ
  rfl
theorem learnP_whole (m : MP) (st : B64) (n : AN) (fold : Bool) : (learnP m st n fold).whole = m.whole := by
  unfold learnP
  repeat' split
  all_goals first | rfl | exact learnQ_whole _ _ _ _ _
theorem buildQ_whole (ns : List AN) (P : GP) (fold whole : Bool) : ∀ q, (buildQ ns P fold whole q).whole = whole
  | 0 => rfl
  | q + 1 => by
    rw [buildQ]
    cases ns[P.node q]? with
    | none => exact buildQ_whole ns P fold whole q
    | some n => exact (learnP_whole _ _ _ _).trans (buildQ_whole ns P fold whole q)

set_option maxHeartbeats 1000000 in
set_option maxRecDepth 100000 in
theorem build_any (ns : List AN) (xs : List IV) (B : Nat) (v : Value) (size : Int) (fold whole : Bool) (w : World) (h : NodesIn w B v ns xs) (hl : ns.length ≤ 900) (hn : NodesFit ns) (hits : ∀ n, n ∈ ns → n.its.length ≤ 1000) (hfit : (lastQ ns ns.length).count ≤ 60) (hnd : ∀ i, (lastQ ns ns.length).node i ≤ 10000) :
    Calls Tryz.prog 56 #[.agg #[v, .int .i64 size], .bool fold, .bool whole] w fun e w' => e = .returned (.agg (mCells (finP (buildP ns (lastQ ns ns.length) fold whole)))) ∧ Kept [] w w' := by
  have hz := zeroV_part
  have hzm := zeroV_mach
  have hw : Hid (∀ w', Kept [] w w' → PartCall _ _ w' _) := fun w' k => write_any ns xs B v w' (row_kept0 h.row k) h.len hl hn
  generalize hP : lastQ ns ns.length = P at *
  obtain ⟨va, cap, hv⟩ : ∃ a cap, v = .slice a ns.length cap := by
    rcases h.row.2 with ⟨h1, h2⟩ | ⟨g, cap, _, h1, _⟩
    · exact ⟨none, 0, by rw [h1, h2]⟩
    · exact ⟨_, cap, h1⟩
  subst hv
  have k0 : Kept [] w ((w.alloc (.cells #[.slice va ns.length cap, .int .i64 size] 93)).alloc (.cells (mCells {}) 101)) := ((Kept.refl _ _).alloc _).alloc _
  have p0 : Blk ((w.alloc (.cells #[.slice va ns.length cap, .int .i64 size] 93)).alloc (.cells (mCells {}) 101)) w.heap.size #[.slice va ns.length cap, .int .i64 size] 93 := (Blk.new _ _ _).alloc _
  have r0 : MIn ((w.alloc (.cells #[.slice va ns.length cap, .int .i64 size] 93)).alloc (.cells (mCells {}) 101)) (w.heap.size + 1) {} := Blk.new1 w _ _ _
  have k0 : Hid (Kept _ _ _) := k0
  have p0 : Hid (Blk _ _ _ _) := p0
  have r0 : Hid (MIn _ _ _) := r0
  cases hem : P.empty with
  | false =>
    go_enter Tryz.func56, Tryz.ntmps56
    go_wp2_with (first
      | (go_at_call 94
         refine (hw.out _ k0.out).mono ?_
         rintro e w1 ⟨rfl, k1⟩
         have p1 := p0.out.kept k1 (by simp)
         have r1 := Blk.kept r0.out k1 (by simp)
         have K1 := k0.out.trans k1
         have L1 := Blk.lt r1)
      | (with_reducible refine wpList_store_part ?_ (.tmp 7) (.tmp 13) ?_ w1.heap.size ?_ {} P ?_ ?_ ?_
         · rfl
         · rfl
         · rfl
         · rfl
         · exact Blk.new w1 (gpCells {}) 158
         intro w2 hb2 hk2 hs2
         have p2 := (p1.alloc (.cells (gpCells {}) 158)).kept hk2 (by simp; omega)
         have r2 := Blk.kept (Blk.alloc r1 (.cells (gpCells {}) 158)) hk2 (by simp; omega)
         have K2 : Kept [] w w2 := (K1.alloc (.cells (gpCells {}) 158)).into hk2 (by omega)
         have c3 := hb2.part3
         have L2 := hb2.lt
         clear hs2 hk2)
      | (refine wpList_build_mach rfl (.tmp 15) rfl whole P.last rfl ?_)
      | (with_reducible refine wpList_store_mach ?_ (.tmp 8) (.tmp 16) ?_ w2.heap.size ?_ {} { whole := whole, last := P.last } ?_ ?_ ?_
         · rfl
         · rfl
         · rfl
         · rfl
         · exact Blk.new w2 (mCells {}) 101
         intro w3 hb3 hk3 hs3
         have I3 : BdIn w w3 w1.heap.size w2.heap.size (.slice va ns.length cap) size P { whole := whole, last := P.last } := ⟨hb3, (hb2.alloc (.cells (mCells {}) 101)).kept hk3 (by simp; omega), (p2.alloc (.cells (mCells {}) 101)).kept hk3 (by simp; omega), Blk.kept (Blk.alloc r2 (.cells (mCells {}) 101)) hk3 (by simp; omega), (K2.alloc (.cells (mCells {}) 101)).into hk3 (by omega), L1, L2⟩
         clear c3 hs3 hk3
         have d1 := I3.pt.part1
         rw [hem] at d1
         have d2 := I3.pt.part2
         have d3 := I3.mi.next (i := 60) (by decide)
         have f3 := I3.mi.frozen 62
         have d4 := I3.mi.last
         have f4 := I3.mi.frozen 323
         have H0 : Hid (BdIn w (w3.setCell ⟨w2.heap.size, 62, none⟩ (UV P.first)) w1.heap.size w2.heap.size (.slice va ns.length cap) size P (buildQ ns P fold whole 0)) := by
           have e : buildQ ns P fold whole 0 = nextM { whole := whole, last := P.last } 60 P.first := by simp [buildQ, build0, hem, nextM]
           rw [e]
           exact I3.set 62 (UV P.first) (nextM_set _ 60 _ (by decide))))
    go_loopw [9] (fun iv wr => ∃ q : Nat, iv = .int .i64 (q : Int) ∧ q ≤ P.count ∧ BdIn w wr w1.heap.size w2.heap.size (.slice va ns.length cap) size P (buildQ ns P fold whole q)) (fun iv _ => ((P.count : Int) - intOf iv).toNat)
    case atStart => exact ⟨0, rfl, Nat.zero_le _, H0.out⟩
    case round =>
      obtain ⟨q, rfl, hq, hI⟩ := hrel
      clear H0 k0 p0 r0 hw K1 K2 p1 r1 k1 p2 r2 hb2 hb3 I3 d1 d2 d3 d4 f3 f4 hz hzm
      have hgs : w.heap.size ≤ w2.heap.size := by omega
      by_cases hlt : (q : Int) < (P.count : Int)
      · have hqn : q < P.count := by omega
        have hq60 : q < 60 := by omega
        have hq60i : (q : Int) < 60 := by omega
        have c0 := hI.pt.part0
        have c1 : wr.cell? ⟨w1.heap.size, 4 + q, none⟩ = some (UV (P.next q)) := by rw [hI.pt.cell, part_next _ _ hq60]
        have c2 : wr.cell? ⟨w1.heap.size, 64 + q, none⟩ = some (.int .i64 (P.node q : Int)) := by rw [hI.pt.cell, part_node _ _ hq60]
        have c3 : wr.cell? ⟨w.heap.size, 0, none⟩ = some (.slice va ns.length cap) := by rw [hI.pat.cell]; rfl
        have c4 := hI.mi.next (i := q) (by omega)
        have f4 := hI.mi.frozen (2 + q)
        have L3 := hI.lt
        have L4 := hI.ltg
        have I9 := hI.set (2 + q) (UV (P.next q)) (nextM_set _ q _ (by omega))
        have hnq := hnd q
        by_cases hnode : (P.node q : Int) < (ns.length : Int)
        · have hnn : P.node q < ns.length := by omega
          obtain ⟨n, hn1⟩ : ∃ n, ns[P.node q]? = some n := ⟨_, List.getElem?_eq_getElem hnn⟩
          obtain ⟨x, hx1⟩ : ∃ x, xs[P.node q]? = some x := ⟨_, List.getElem?_eq_getElem (by have := h.len; omega)⟩
          obtain ⟨gN, cap', hv⟩ := own_form h.row (by omega)
          simp only [Value.slice.injEq] at hv
          obtain ⟨rfl, _, rfl⟩ := hv
          have hrg := range_kept (node_range h.row hn1 hx1) I9.k (by simp) (by simp [AN.cells])
          have hits1 := h.items _ _ _ hn1 hx1
          have hne : (ivV x).ownBlock ≠ some w2.heap.size := fun hc => by have := hits1.lt _ hc; omega
          have hlearn : Hid (Calls _ _ _ _ _) := learn_any _ w2.heap.size (1#64 <<< q) n x fold B _ I9.mi (row_kept0 hits1 I9.k) (hits n (List.mem_of_getElem? hn1)) hne
          have eB : Hid (buildQ ns P fold whole (q + 1) = learnP (nextM (buildQ ns P fold whole q) q (P.next q)) (1#64 <<< q) n fold) := by
            show buildQ ns P fold whole (q + 1) = _
            rw [buildQ, hn1]
          have I9H : Hid (BdIn _ _ _ _ _ _ _ _) := I9
          have hw1 : IntKind.wrap .u64 ((2 : Int) ^ q) = ((1#64 <<< q : B64).toNat : Int) := by rw [← one_shl (by omega)]; exact wrap_u _ (BitVec.isLt _)
          have hw2 : IntKind.wrap .u64 (1 * (2 : Int) ^ q) = ((1#64 <<< q : B64).toNat : Int) := by rw [Int.one_mul]; exact hw1
          generalize hSS : (1#64 <<< q : B64) = S at *
          clear hSS hn1 hx1 hits1 hne h hits hI I9 hn hfit hnd
          go_wp2_with (first
            | (with_reducible refine wpList_load_node ?_ (.tmp 65) ?_ gN (P.node q * 8) ?_ n x ?_ ?_
               · rfl
               · rfl
               · first | rfl | (simp [Act.eval])
               · exact hrg)
            | (go_at_call 95
               with_reducible refine hlearn.out.mono ?_
               rintro e w8 ⟨rfl, h8, k8⟩
               have I10 : Hid (BdIn _ _ _ _ _ _ _ _) := I9H.out.into h8 k8))
          refine ⟨⟨q + 1, by go_num, by omega, by rw [eB.out]; exact I10.out⟩, ?_⟩
          simp only [intOf]; omega
        · have hnn : ns[P.node q]? = none := List.getElem?_eq_none (by omega)
          have eB : Hid (buildQ ns P fold whole (q + 1) = nextM (buildQ ns P fold whole q) q (P.next q)) := by
            show buildQ ns P fold whole (q + 1) = _
            rw [buildQ, hnn]
          have I9H : Hid (BdIn _ _ _ _ _ _ _ _) := I9
          have hnode : (ns.length : Int) ≤ (P.node q : Int) := by omega
          clear hnn h hits hI I9 hn hfit hnd
          go_wp2
          refine ⟨⟨q + 1, by go_num, by omega, by rw [eB.out]; exact I9H.out⟩, ?_⟩
          simp only [intOf]; omega
      · have hqe : P.count = q := by omega
        have eB : Hid (buildP ns P fold whole = buildQ ns P fold whole q) := by show buildP ns P fold whole = _; unfold buildP; rw [hqe]
        have c0 := hI.pt.part0
        have hIH : Hid (BdIn _ _ _ _ _ _ _ _) := hI
        have hMw : (buildQ ns P fold whole q).whole = whole := buildQ_whole ns P fold whole q
        clear hqe hI h hits hn hfit hnd
        generalize buildQ ns P fold whole q = M at *
        have eF : Hid (finP (buildP ns P fold whole) = if whole = true then begM M else anyP (begM M)) := by
          show finP _ = _
          rw [eB.out]
          unfold finP
          rw [hMw]
        clear eB hMw
        have hfe : Hid (∀ w', MIn w' w2.heap.size M → Calls _ _ _ w' _) := fun w' h => findEnds_any M w2.heap.size w' h
        have haa : Hid (∀ w', MIn w' w2.heap.size (begM M) → Calls _ _ _ w' _) := fun w' h => allowAnywhere_any (begM M) w2.heap.size w' h
        cases whole with
        | true =>
          rw [if_pos rfl] at eF
          generalize hN : begM M = N at *
          clear hN haa
          go_wp2_with (first
            | (go_at_call 96
               with_reducible refine (hfe.out _ hIH.out.mi).mono ?_
               rintro e w7 ⟨rfl, h7, k7⟩
               have I7 : Hid (BdIn _ _ _ _ _ _ _ _) := hIH.out.into h7 k7)
            | (with_reducible refine wpList_load_mach ?_ (.tmp 8) ?_ w2.heap.size ?_ N ?_ ?_
               · rfl
               · rfl
               · rfl
               · exact I7.out.mi)
            | (with_reducible refine wpList_store_mach ?_ (.tmp 6) (.tmp 73) ?_ (w.heap.size + 1) ?_ {} N ?_ ?_ ?_
               · rfl
               · rfl
               · rfl
               · rfl
               · exact I7.out.res
               intro w8 hb8 hk8 hs8
               have hK8 := I7.out.k.into hk8 (by omega)))
          exact bodyPost_ret (v := .agg (mCells N)) (results_mach Tryz.results56 _ _ _ N rfl hb8) rfl ⟨by rw [eF.out], hK8⟩
        | false =>
          rw [if_neg (by decide)] at eF
          generalize hN : anyP (begM M) = N at *
          clear hN
          go_wp2_with (first
            | (go_at_call 96
               with_reducible refine (hfe.out _ hIH.out.mi).mono ?_
               rintro e w7 ⟨rfl, h7, k7⟩
               have I7 : Hid (BdIn _ _ _ _ _ _ _ _) := hIH.out.into h7 k7)
            | (go_at_call 97
               with_reducible refine (haa.out _ I7.out.mi).mono ?_
               rintro e w6 ⟨rfl, h6, k6⟩
               have I6 : Hid (BdIn _ _ _ _ _ _ _ _) := I7.out.into h6 k6)
            | (with_reducible refine wpList_load_mach ?_ (.tmp 8) ?_ w2.heap.size ?_ N ?_ ?_
               · rfl
               · rfl
               · rfl
               · exact I6.out.mi)
            | (with_reducible refine wpList_store_mach ?_ (.tmp 6) (.tmp 73) ?_ (w.heap.size + 1) ?_ {} N ?_ ?_ ?_
               · rfl
               · rfl
               · rfl
               · rfl
               · exact I6.out.res
               intro w8 hb8 hk8 hs8
               have hK8 := I6.out.k.into hk8 (by omega)))
          exact bodyPost_ret (v := .agg (mCells N)) (results_mach Tryz.results56 _ _ _ N rfl hb8) rfl ⟨by rw [eF.out], hK8⟩
  | true =>
    have hor := or_u P.last startB
    rw [startB_nat] at hor
    obtain ⟨Z, hZ⟩ : ∃ Z, Hid (P.last ||| startB = Z) := ⟨_, rfl⟩
    rw [hZ.out] at hor
    go_enter Tryz.func56, Tryz.ntmps56
    go_wp2_with (first
      | (go_at_call 94
         refine (hw.out _ k0.out).mono ?_
         rintro e w1 ⟨rfl, k1⟩
         have p1 := p0.out.kept k1 (by simp)
         have r1 := Blk.kept r0.out k1 (by simp)
         have K1 := k0.out.trans k1
         have L1 := Blk.lt r1)
      | (with_reducible refine wpList_store_part ?_ (.tmp 7) (.tmp 13) ?_ w1.heap.size ?_ {} P ?_ ?_ ?_
         · rfl
         · rfl
         · rfl
         · rfl
         · exact Blk.new w1 (gpCells {}) 158
         intro w2 hb2 hk2 hs2
         have p2 := (p1.alloc (.cells (gpCells {}) 158)).kept hk2 (by simp; omega)
         have r2 := Blk.kept (Blk.alloc r1 (.cells (gpCells {}) 158)) hk2 (by simp; omega)
         have K2 : Kept [] w w2 := (K1.alloc (.cells (gpCells {}) 158)).into hk2 (by omega)
         have c3 := hb2.part3
         have L2 := hb2.lt
         clear hs2 hk2)
      | (refine wpList_build_mach rfl (.tmp 15) rfl whole P.last rfl ?_)
      | (with_reducible refine wpList_store_mach ?_ (.tmp 8) (.tmp 16) ?_ w2.heap.size ?_ {} { whole := whole, last := P.last } ?_ ?_ ?_
         · rfl
         · rfl
         · rfl
         · rfl
         · exact Blk.new w2 (mCells {}) 101
         intro w3 hb3 hk3 hs3
         have I3 : BdIn w w3 w1.heap.size w2.heap.size (.slice va ns.length cap) size P { whole := whole, last := P.last } := ⟨hb3, (hb2.alloc (.cells (mCells {}) 101)).kept hk3 (by simp; omega), (p2.alloc (.cells (mCells {}) 101)).kept hk3 (by simp; omega), Blk.kept (Blk.alloc r2 (.cells (mCells {}) 101)) hk3 (by simp; omega), (K2.alloc (.cells (mCells {}) 101)).into hk3 (by omega), L1, L2⟩
         clear c3 hs3 hk3
         have d1 := I3.pt.part1
         rw [hem] at d1
         have d2 := I3.pt.part2
         have d3 := I3.mi.next (i := 60) (by decide)
         have f3 := I3.mi.frozen 62
         have d4 := I3.mi.last
         have f4 := I3.mi.frozen 323
         have H0 : Hid (BdIn w ((w3.setCell ⟨w2.heap.size, 62, none⟩ (UV P.first)).setCell ⟨w2.heap.size, 323, none⟩ (UV Z)) w1.heap.size w2.heap.size (.slice va ns.length cap) size P (buildQ ns P fold whole 0)) := by
           have e : buildQ ns P fold whole 0 = { nextM { whole := whole, last := P.last } 60 P.first with last := Z } := by simp [buildQ, build0, hem, nextM, hZ.out]
           rw [e]
           exact (I3.set 62 (UV P.first) (nextM_set _ 60 _ (by decide))).set 323 (UV Z) (m_set_last _ Z)))
    go_loopw [9] (fun iv wr => ∃ q : Nat, iv = .int .i64 (q : Int) ∧ q ≤ P.count ∧ BdIn w wr w1.heap.size w2.heap.size (.slice va ns.length cap) size P (buildQ ns P fold whole q)) (fun iv _ => ((P.count : Int) - intOf iv).toNat)
    case atStart => exact ⟨0, rfl, Nat.zero_le _, H0.out⟩
    case round =>
      obtain ⟨q, rfl, hq, hI⟩ := hrel
      clear H0 k0 p0 r0 hw K1 K2 p1 r1 k1 p2 r2 hb2 hb3 I3 d1 d2 d3 d4 f3 f4 hz hzm
      have hgs : w.heap.size ≤ w2.heap.size := by omega
      by_cases hlt : (q : Int) < (P.count : Int)
      · have hqn : q < P.count := by omega
        have hq60 : q < 60 := by omega
        have hq60i : (q : Int) < 60 := by omega
        have c0 := hI.pt.part0
        have c1 : wr.cell? ⟨w1.heap.size, 4 + q, none⟩ = some (UV (P.next q)) := by rw [hI.pt.cell, part_next _ _ hq60]
        have c2 : wr.cell? ⟨w1.heap.size, 64 + q, none⟩ = some (.int .i64 (P.node q : Int)) := by rw [hI.pt.cell, part_node _ _ hq60]
        have c3 : wr.cell? ⟨w.heap.size, 0, none⟩ = some (.slice va ns.length cap) := by rw [hI.pat.cell]; rfl
        have c4 := hI.mi.next (i := q) (by omega)
        have f4 := hI.mi.frozen (2 + q)
        have L3 := hI.lt
        have L4 := hI.ltg
        have I9 := hI.set (2 + q) (UV (P.next q)) (nextM_set _ q _ (by omega))
        have hnq := hnd q
        by_cases hnode : (P.node q : Int) < (ns.length : Int)
        · have hnn : P.node q < ns.length := by omega
          obtain ⟨n, hn1⟩ : ∃ n, ns[P.node q]? = some n := ⟨_, List.getElem?_eq_getElem hnn⟩
          obtain ⟨x, hx1⟩ : ∃ x, xs[P.node q]? = some x := ⟨_, List.getElem?_eq_getElem (by have := h.len; omega)⟩
          obtain ⟨gN, cap', hv⟩ := own_form h.row (by omega)
          simp only [Value.slice.injEq] at hv
          obtain ⟨rfl, _, rfl⟩ := hv
          have hrg := range_kept (node_range h.row hn1 hx1) I9.k (by simp) (by simp [AN.cells])
          have hits1 := h.items _ _ _ hn1 hx1
          have hne : (ivV x).ownBlock ≠ some w2.heap.size := fun hc => by have := hits1.lt _ hc; omega
          have hlearn : Hid (Calls _ _ _ _ _) := learn_any _ w2.heap.size (1#64 <<< q) n x fold B _ I9.mi (row_kept0 hits1 I9.k) (hits n (List.mem_of_getElem? hn1)) hne
          have eB : Hid (buildQ ns P fold whole (q + 1) = learnP (nextM (buildQ ns P fold whole q) q (P.next q)) (1#64 <<< q) n fold) := by
            show buildQ ns P fold whole (q + 1) = _
            rw [buildQ, hn1]
          have I9H : Hid (BdIn _ _ _ _ _ _ _ _) := I9
          have hw1 : IntKind.wrap .u64 ((2 : Int) ^ q) = ((1#64 <<< q : B64).toNat : Int) := by rw [← one_shl (by omega)]; exact wrap_u _ (BitVec.isLt _)
          have hw2 : IntKind.wrap .u64 (1 * (2 : Int) ^ q) = ((1#64 <<< q : B64).toNat : Int) := by rw [Int.one_mul]; exact hw1
          generalize hSS : (1#64 <<< q : B64) = S at *
          clear hSS hn1 hx1 hits1 hne h hits hI I9 hn hfit hnd
          go_wp2_with (first
            | (with_reducible refine wpList_load_node ?_ (.tmp 65) ?_ gN (P.node q * 8) ?_ n x ?_ ?_
               · rfl
               · rfl
               · first | rfl | (simp [Act.eval])
               · exact hrg)
            | (go_at_call 95
               with_reducible refine hlearn.out.mono ?_
               rintro e w8 ⟨rfl, h8, k8⟩
               have I10 : Hid (BdIn _ _ _ _ _ _ _ _) := I9H.out.into h8 k8))
          refine ⟨⟨q + 1, by go_num, by omega, by rw [eB.out]; exact I10.out⟩, ?_⟩
          simp only [intOf]; omega
        · have hnn : ns[P.node q]? = none := List.getElem?_eq_none (by omega)
          have eB : Hid (buildQ ns P fold whole (q + 1) = nextM (buildQ ns P fold whole q) q (P.next q)) := by
            show buildQ ns P fold whole (q + 1) = _
            rw [buildQ, hnn]
          have I9H : Hid (BdIn _ _ _ _ _ _ _ _) := I9
          have hnode : (ns.length : Int) ≤ (P.node q : Int) := by omega
          clear hnn h hits hI I9 hn hfit hnd
          go_wp2
          refine ⟨⟨q + 1, by go_num, by omega, by rw [eB.out]; exact I9H.out⟩, ?_⟩
          simp only [intOf]; omega
      · have hqe : P.count = q := by omega
        have eB : Hid (buildP ns P fold whole = buildQ ns P fold whole q) := by show buildP ns P fold whole = _; unfold buildP; rw [hqe]
        have c0 := hI.pt.part0
        have hIH : Hid (BdIn _ _ _ _ _ _ _ _) := hI
        have hMw : (buildQ ns P fold whole q).whole = whole := buildQ_whole ns P fold whole q
        clear hqe hI h hits hn hfit hnd
        generalize buildQ ns P fold whole q = M at *
        have eF : Hid (finP (buildP ns P fold whole) = if whole = true then begM M else anyP (begM M)) := by
          show finP _ = _
          rw [eB.out]
          unfold finP
          rw [hMw]
        clear eB hMw
        have hfe : Hid (∀ w', MIn w' w2.heap.size M → Calls _ _ _ w' _) := fun w' h => findEnds_any M w2.heap.size w' h
        have haa : Hid (∀ w', MIn w' w2.heap.size (begM M) → Calls _ _ _ w' _) := fun w' h => allowAnywhere_any (begM M) w2.heap.size w' h
        cases whole with
        | true =>
          rw [if_pos rfl] at eF
          generalize hN : begM M = N at *
          clear hN haa
          go_wp2_with (first
            | (go_at_call 96
               with_reducible refine (hfe.out _ hIH.out.mi).mono ?_
               rintro e w7 ⟨rfl, h7, k7⟩
               have I7 : Hid (BdIn _ _ _ _ _ _ _ _) := hIH.out.into h7 k7)
            | (with_reducible refine wpList_load_mach ?_ (.tmp 8) ?_ w2.heap.size ?_ N ?_ ?_
               · rfl
               · rfl
               · rfl
               · exact I7.out.mi)
            | (with_reducible refine wpList_store_mach ?_ (.tmp 6) (.tmp 73) ?_ (w.heap.size + 1) ?_ {} N ?_ ?_ ?_
               · rfl
               · rfl
               · rfl
               · rfl
               · exact I7.out.res
               intro w8 hb8 hk8 hs8
               have hK8 := I7.out.k.into hk8 (by omega)))
          exact bodyPost_ret (v := .agg (mCells N)) (results_mach Tryz.results56 _ _ _ N rfl hb8) rfl ⟨by rw [eF.out], hK8⟩
        | false =>
          rw [if_neg (by decide)] at eF
          generalize hN : anyP (begM M) = N at *
          clear hN
          go_wp2_with (first
            | (go_at_call 96
               with_reducible refine (hfe.out _ hIH.out.mi).mono ?_
               rintro e w7 ⟨rfl, h7, k7⟩
               have I7 : Hid (BdIn _ _ _ _ _ _ _ _) := hIH.out.into h7 k7)
            | (go_at_call 97
               with_reducible refine (haa.out _ I7.out.mi).mono ?_
               rintro e w6 ⟨rfl, h6, k6⟩
               have I6 : Hid (BdIn _ _ _ _ _ _ _ _) := I7.out.into h6 k6)
            | (with_reducible refine wpList_load_mach ?_ (.tmp 8) ?_ w2.heap.size ?_ N ?_ ?_
               · rfl
               · rfl
               · rfl
               · exact I6.out.mi)
            | (with_reducible refine wpList_store_mach ?_ (.tmp 6) (.tmp 73) ?_ (w.heap.size + 1) ?_ {} N ?_ ?_ ?_
               · rfl
               · rfl
               · rfl
               · rfl
               · exact I6.out.res
               intro w8 hb8 hk8 hs8
               have hK8 := I6.out.k.into hk8 (by omega)))
          exact bodyPost_ret (v := .agg (mCells N)) (results_mach Tryz.results56 _ _ _ N rfl hb8) rfl ⟨by rw [eF.out], hK8⟩

end Go.Proofs.YtgifhgnccmnbiabGreatDoor
