/- Package packed: files of rules, as plain functions. No Go in it. -/
import Derived.Test.YtgifhgnccmnbiaaPkRead
set_option linter.unusedVariables false
set_option linter.unusedSimpArgs false
namespace Go.Proofs.Ytgifhgnccmnbiaa
open Go.RowKit Go.IntWalk

def ruG (f : ByteArray) (s : RS) : Nat → List RU × RS
  | 0 => ([], s)
  | i + 1 =>
    ((ruG f s i).1 ++ [ruleP (ruG f s i).1 (countG f 2 (255 + i) (ruG f s i).2).1 (countG f 2 (255 + i) (countG f 2 (255 + i) (ruG f s i).2).2).1],
     (countG f 2 (255 + i) (countG f 2 (255 + i) (ruG f s i).2).2).2)
def syG (f : ByteArray) (m : Nat) (s : RS) : Nat → List Nat × RS
  | 0 => ([], s)
  | i + 1 => ((syG f m s i).1 ++ [(countG f 2 m (syG f m s i).2).1], (countG f 2 m (syG f m s i).2).2)
def wholeP (rs : List RU) (l : List Nat) : PT := l.foldl (fun p s => joinP p (partAt rs s)) {}
def sgR (f : ByteArray) : Nat × RS := countG f 1 100 (2, false)
def sgG (f : ByteArray) : List RU × RS := ruG f (sgR f).2 (sgR f).1
def sgN (f : ByteArray) : Nat × RS := countG f 2 1000 (sgG f).2
def sgS (f : ByteArray) : List Nat × RS := syG f (255 + (sgR f).1) (sgN f).2 (sgN f).1
def sgOk (f : ByteArray) : Bool := !(sgS f).2.2 && decide (f.size ≤ (sgS f).2.1)
def sgT (f : ByteArray) : TT := { kind := 71, syms := (sgN f).1, rules := (sgG f).1, start := (sgS f).1, whole := wholeP (sgG f).1 (sgS f).1 }

theorem nextG_bad {f : ByteArray} {s : RS} (h : s.2 = true) : (nextG f s).2.2 = true := by unfold nextG; split <;> simp [h]
theorem numG_bad {f : ByteArray} {s : RS} (h : s.2 = true) : ∀ i, (numG f s i).2.2 = true
  | 0 => h
  | i + 1 => nextG_bad (numG_bad h i)
theorem countG_bad {f : ByteArray} {n m : Nat} {s : RS} (h : s.2 = true) : (countG f n m s).2.2 = true := by
  unfold countG; split
  · rfl
  · exact numG_bad h n
theorem ruG_bad {f : ByteArray} {s : RS} {i : Nat} (h : (ruG f s i).2.2 = true) : ∀ j, (ruG f s (i + j)).2.2 = true
  | 0 => h
  | j + 1 => countG_bad (countG_bad (ruG_bad h j))
theorem syG_bad {f : ByteArray} {m : Nat} {s : RS} {i : Nat} (h : (syG f m s i).2.2 = true) : ∀ j, (syG f m s (i + j)).2.2 = true
  | 0 => h
  | j + 1 => countG_bad (syG_bad h j)
theorem ruG_len (f : ByteArray) (s : RS) : ∀ i, (ruG f s i).1.length = i
  | 0 => rfl
  | i + 1 => by
    show (_ ++ [_]).length = i + 1
    rw [List.length_append, ruG_len f s i]; rfl
theorem syG_len (f : ByteArray) (m : Nat) (s : RS) : ∀ i, (syG f m s i).1.length = i
  | 0 => rfl
  | i + 1 => by
    show (_ ++ [_]).length = i + 1
    rw [List.length_append, syG_len f m s i]; rfl
theorem ruG_at (f : ByteArray) (s : RS) : ∀ i, (ruG f s i).2.1 ≤ s.1 + 4 * i
  | 0 => Nat.le_refl _
  | i + 1 => by
    have h0 := ruG_at f s i
    have h1 := (countG_ge f 2 (255 + i) (ruG f s i).2).2
    have h2 := (countG_ge f 2 (255 + i) (countG f 2 (255 + i) (ruG f s i).2).2).2
    show (countG f 2 (255 + i) (countG f 2 (255 + i) (ruG f s i).2).2).2.1 ≤ s.1 + 4 * (i + 1)
    omega
theorem syG_at (f : ByteArray) (m : Nat) (s : RS) : ∀ i, (syG f m s i).2.1 ≤ s.1 + 2 * i
  | 0 => Nat.le_refl _
  | i + 1 => by
    have h0 := syG_at f m s i
    have h1 := (countG_ge f 2 m (syG f m s i).2).2
    show (countG f 2 m (syG f m s i).2).2.1 ≤ s.1 + 2 * (i + 1)
    omega
theorem sgOk_S {f : ByteArray} (h : (sgS f).2.2 = true) : sgOk f = false := by unfold sgOk; rw [h]; rfl
theorem sgOk_N {f : ByteArray} (h : (sgN f).2.2 = true) : sgOk f = false := by
  refine sgOk_S ?_
  have := syG_bad (f := f) (m := 255 + (sgR f).1) (s := (sgN f).2) (i := 0) h (sgN f).1
  rwa [Nat.zero_add] at this
theorem sgOk_G {f : ByteArray} (h : (sgG f).2.2 = true) : sgOk f = false := sgOk_N (countG_bad h)
theorem sgOk_g {f : ByteArray} {i : Nat} (hi : i ≤ (sgR f).1) (h : (ruG f (sgR f).2 i).2.2 = true) : sgOk f = false := by
  refine sgOk_G ?_
  have := ruG_bad h ((sgR f).1 - i)
  rwa [show i + ((sgR f).1 - i) = (sgR f).1 by omega] at this
theorem sgOk_s {f : ByteArray} {i : Nat} (hi : i ≤ (sgN f).1) (h : (syG f (255 + (sgR f).1) (sgN f).2 i).2.2 = true) : sgOk f = false := by
  refine sgOk_S ?_
  have := syG_bad h ((sgN f).1 - i)
  rwa [show i + ((sgN f).1 - i) = (sgN f).1 by omega] at this
theorem wholeP_snoc (rs : List RU) (l : List Nat) (s : Nat) : wholeP rs (l ++ [s]) = joinP (wholeP rs l) (partAt rs s) := by unfold wholeP; rw [List.foldl_append]; rfl

/-- The state of the reader behind the rules. -/
structure AfterRules (f : ByteArray) (rs : List RU) (s : RS) : Prop where
  bad : s.2 = true → sgOk f = false
  good : s.2 = false → rs = (sgG f).1 ∧ s = (sgG f).2
  len : rs.length ≤ 100
  at_ : s.1 ≤ 1000
/-- The state of the reader among the symbols. -/
structure AmongSyms (f : ByteArray) (rs : List RU) (n j : Nat) (l : List Nat) (p : PT) (s : RS) : Prop where
  bad : s.2 = true → sgOk f = false
  good : s.2 = false → rs = (sgG f).1 ∧ n = (sgN f).1 ∧ l = (syG f (255 + (sgR f).1) (sgN f).2 j).1 ∧ s = (syG f (255 + (sgR f).1) (sgN f).2 j).2 ∧ p = wholeP rs l
  len : rs.length ≤ 100
  llen : l.length = j
  at_ : s.1 ≤ 2000 + 2 * j
  up : n ≤ 1000
theorem sgR_bd (f : ByteArray) : (sgR f).1 ≤ 100 ∧ (sgR f).2.1 ≤ 3 := ⟨countG_le _ _ _ _, (countG_ge f 1 100 (2, false)).2⟩
theorem AfterRules.of {f : ByteArray} {q : Nat} (hq : q ≤ (sgR f).1) (h : (ruG f (sgR f).2 q).2.2 = true ∨ q = (sgR f).1) : AfterRules f (ruG f (sgR f).2 q).1 (ruG f (sgR f).2 q).2 := by
  have hb := sgR_bd f
  have ha := ruG_at f (sgR f).2 q
  refine ⟨fun hx => sgOk_g hq hx, fun hx => ?_, by rw [ruG_len]; omega, by omega⟩
  rcases h with h | h
  · rw [hx] at h; cases h
  · subst h; exact ⟨rfl, rfl⟩
theorem AfterRules.count {f : ByteArray} {rs : List RU} {s : RS} (h : AfterRules f rs s) : AmongSyms f rs (countG f 2 1000 s).1 0 [] {} (countG f 2 1000 s).2 := by
  have h1 := countG_ge f 2 1000 s
  refine ⟨fun hx => ?_, fun hx => ?_, h.len, rfl, by have := h.at_; omega, countG_le _ _ _ _⟩
  · cases hs : s.2 with
    | true => exact h.bad hs
    | false => obtain ⟨_, rfl⟩ := h.good hs; exact sgOk_N hx
  · cases hs : s.2 with
    | true => rw [countG_bad hs] at hx; cases hx
    | false => obtain ⟨h2, rfl⟩ := h.good hs; exact ⟨h2, rfl, rfl, rfl, rfl⟩
theorem AmongSyms.next {f : ByteArray} {rs : List RU} {n j : Nat} {l : List Nat} {p : PT} {s : RS} (h : AmongSyms f rs n j l p s) (hj : j < n) (hs : s.2 = false) :
    AmongSyms f rs n (j + 1) (l ++ [(countG f 2 (255 + (sgR f).1) s).1]) (joinP p (partAt rs (countG f 2 (255 + (sgR f).1) s).1)) (countG f 2 (255 + (sgR f).1) s).2 := by
  have h1 := countG_ge f 2 (255 + (sgR f).1) s
  obtain ⟨g1, g2, g3, g4, g5⟩ := h.good hs
  refine ⟨fun hx => ?_, fun hx => ⟨g1, g2, ?_, ?_, ?_⟩, h.len, by rw [List.length_append, h.llen]; rfl, by have := h.at_; omega, h.up⟩
  · rw [g4] at hx
    exact sgOk_s (i := j + 1) (by omega) hx
  · rw [g3, g4]; rfl
  · rw [g4]; rfl
  · rw [g5, wholeP_snoc]
theorem AmongSyms.fin {f : ByteArray} {rs : List RU} {n : Nat} {l : List Nat} {p : PT} {s : RS} (h : AmongSyms f rs n n l p s) (hs : s.2 = false) :
    sgOk f = decide (f.size ≤ s.1) ∧ ({ kind := 71, syms := n, rules := rs, start := l, whole := p } : TT) = sgT f := by
  obtain ⟨g1, g2, g3, g4, g5⟩ := h.good hs
  subst g2
  have e : (sgS f).2 = s := g4.symm
  refine ⟨by unfold sgOk; rw [e, hs]; rfl, ?_⟩
  unfold sgT
  rw [g5, g3, g1]; rfl

end Go.Proofs.Ytgifhgnccmnbiaa
