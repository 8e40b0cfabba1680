/- The document's answer: its reader whole, as plain functions; its parts as a list, each behind those that it is made of. No Go in it. -/
import Derived.Test.YtgifhgnccmnbiaaNodesPure
set_option linter.unusedVariables false
set_option linter.unusedSimpArgs false
namespace Go.Proofs.Ytgifhgnccmnbiaa

/-- The next byte is taken; at the end that is bad. -/
def tkS (t : ByteArray) (s : RS) : Int × RS := if s.1 < t.size then (pk t s.1, (s.1 + 1, s.2)) else (0, (s.1, true))
/-- Is the next byte one of these? -/
def stB (t : ByteArray) (s : RS) (l : List UInt8) : Bool := l.any (fun c => pk t s.1 == (c.toNat : Int))
def markS (s : RS) : RS := (s.1, true)

theorem tk_ge {t : ByteArray} {s : RS} : s.1 ≤ (tkS t s).2.1 := by
  unfold tkS; split
  · exact Nat.le_succ _
  · exact Nat.le_refl _
theorem fits_tk {t : ByteArray} {s : RS} (h : Fits t s) : Fits t (tkS t s).2 := by
  unfold tkS; split
  · rename_i h2; exact h2
  · exact h
theorem tk_bd (t : ByteArray) (s : RS) : 0 ≤ (tkS t s).1 ∧ (tkS t s).1 ≤ 255 := by
  unfold tkS; split
  · rename_i h; rw [pk_lt h]; have := t[s.1].toNat_lt; simp only []; omega
  · simp

/-- A member of a list. -/
def memR (t : ByteArray) (s : RS) : Int × RS := tkS t (takeS t 92 (if stB t s [93] = true then markS s else s)).2
theorem fits_memR {t : ByteArray} {s : RS} (h : Fits t s) : Fits t (memR t s).2 := by
  unfold memR
  refine fits_tk (fits_take (by omega) ?_)
  split <;> exact h
theorem memR_bd (t : ByteArray) (s : RS) : 0 ≤ (memR t s).1 ∧ (memR t s).1 ≤ 255 := tk_bd _ _
theorem memR_ge {t : ByteArray} {s : RS} : s.1 ≤ (memR t s).2.1 := by
  unfold memR
  refine Nat.le_trans ?_ (Nat.le_trans take_ge tk_ge)
  split <;> exact Nat.le_refl _
/-- A member is taken, or that is bad. -/
theorem memR_on {t : ByteArray} {s : RS} : s.1 < (memR t s).2.1 ∨ (memR t s).2.2 = true := by
  unfold memR
  generalize hx : (if stB t s [93] = true then markS s else s) = x
  have hx1 : x.1 = s.1 := by rw [← hx]; split <;> rfl
  generalize hy : (takeS t 92 x).2 = y
  have h1 : x.1 ≤ y.1 := by rw [← hy]; exact take_ge
  unfold tkS
  split
  · left; simp only []; omega
  · right; rfl

/-- What is bad stays bad. -/
theorem tk_bad {t : ByteArray} {s : RS} (h : s.2 = true) : (tkS t s).2.2 = true := by unfold tkS; split <;> first | exact h | rfl
theorem take_bad {t : ByteArray} {c : Int} {s : RS} (h : s.2 = true) : (takeS t c s).2.2 = true := by unfold takeS; split <;> exact h
theorem memR_bad {t : ByteArray} {s : RS} (h : s.2 = true) : (memR t s).2.2 = true := by
  unfold memR
  refine tk_bad (take_bad ?_)
  split
  · rfl
  · exact h

/-- The greater member, and where the reader then stands. -/
def toR (t : ByteArray) (s : RS) : Int × RS := if secS t (memR t s).2 = true then memR t (tkS t (memR t s).2).2 else memR t s
def fillB (f : Nat → Bool) (lo hi : Int) : Nat → Bool := fun i => f i || decide (lo ≤ (i : Int) ∧ (i : Int) ≤ hi)
/-- One item: where the reader stands behind it; the bytes that are in. -/
def itemR (t : ByteArray) (s : RS) (f : Nat → Bool) : RS × (Nat → Bool) :=
  (if (toR t s).1 < (memR t s).1 then markS (toR t s).2 else (toR t s).2, fillB f (memR t s).1 (toR t s).1)
theorem fits_toR {t : ByteArray} {s : RS} (h : Fits t s) : Fits t (toR t s).2 := by
  have h1 := fits_memR h
  unfold toR
  split
  · exact fits_memR (fits_tk h1)
  · exact h1
theorem toR_bd (t : ByteArray) (s : RS) : 0 ≤ (toR t s).1 ∧ (toR t s).1 ≤ 255 := by
  unfold toR
  split
  · exact memR_bd _ _
  · exact memR_bd _ _
theorem toR_ge {t : ByteArray} {s : RS} : (memR t s).2.1 ≤ (toR t s).2.1 := by
  unfold toR
  split
  · exact Nat.le_trans tk_ge memR_ge
  · exact Nat.le_refl _
theorem toR_bad {t : ByteArray} {s : RS} (h : (memR t s).2.2 = true) : (toR t s).2.2 = true := by
  unfold toR
  split
  · exact memR_bad (tk_bad h)
  · exact h
theorem fits_itemR {t : ByteArray} {s : RS} {f : Nat → Bool} (h : Fits t s) : Fits t (itemR t s f).1 := by
  unfold itemR
  simp only []
  split
  · exact fits_toR h
  · exact fits_toR h
theorem itemR_ge {t : ByteArray} {s : RS} {f : Nat → Bool} : s.1 ≤ (itemR t s f).1.1 := by
  unfold itemR
  simp only []
  split
  · exact Nat.le_trans memR_ge toR_ge
  · exact Nat.le_trans memR_ge toR_ge
theorem itemR_on {t : ByteArray} {s : RS} {f : Nat → Bool} : s.1 < (itemR t s f).1.1 ∨ (itemR t s f).1.2 = true := by
  have h0 := memR_on (t := t) (s := s)
  have h2 := toR_ge (t := t) (s := s)
  unfold itemR
  simp only []
  split
  · right; rfl
  · rcases h0 with h0 | h0
    · left; omega
    · right; exact toR_bad h0

/-- The items of a list, to its end. -/
def itemsG (t : ByteArray) : Nat → RS → (Nat → Bool) → RS × (Nat → Bool)
  | 0, s, f => (s, f)
  | n + 1, s, f =>
    if s.2 = true then (s, f)
    else if (takeS t 93 (itemR t s f).1).1 = true then ((takeS t 93 (itemR t s f).1).2, (itemR t s f).2)
    else itemsG t n (takeS t 93 (itemR t s f).1).2 (itemR t s f).2
/-- How many rounds are left at most. -/
def leftR (t : ByteArray) (s : RS) : Nat := if s.2 = true then 0 else t.size - s.1 + 1
theorem leftR_down {t : ByteArray} {s : RS} {f : Nat → Bool} (hf : Fits t s) (hb : s.2 = false) : leftR t (takeS t 93 (itemR t s f).1).2 < leftR t s := by
  have h1 := itemR_on (t := t) (s := s) (f := f)
  have h2 := take_ge (t := t) (c := 93) (s := (itemR t s f).1)
  have h3 := fits_itemR (f := f) hf
  have h4 := fits_take (c := 93) (by omega) h3
  simp only [Fits] at h3 h4 hf
  have e : leftR t s = t.size - s.1 + 1 := by unfold leftR; rw [if_neg (by rw [hb]; decide)]
  rw [e]
  unfold leftR
  rcases h1 with h1 | h1
  · split <;> omega
  · rw [if_pos (take_bad h1)]; omega
theorem itemsG_more (t : ByteArray) : ∀ (m n : Nat) (s : RS) (f : Nat → Bool), Fits t s → leftR t s ≤ m → leftR t s ≤ n → itemsG t m s f = itemsG t n s f
  | 0, 0, _, _, _, _, _ => rfl
  | 0, n + 1, s, f, hf, h, _ => by
    rw [itemsG, itemsG, if_pos]
    cases hb : s.2 with
    | true => rfl
    | false => unfold leftR at h; rw [if_neg (by rw [hb]; decide)] at h; omega
  | m + 1, 0, s, f, hf, _, h => by
    rw [itemsG, itemsG, if_pos]
    cases hb : s.2 with
    | true => rfl
    | false => unfold leftR at h; rw [if_neg (by rw [hb]; decide)] at h; omega
  | m + 1, n + 1, s, f, hf, h1, h2 => by
    rw [itemsG, itemsG]
    split
    · rfl
    · rename_i hb
      have hb : s.2 = false := by simpa using hb
      have := leftR_down (f := f) hf hb
      split
      · rfl
      · exact itemsG_more t m n _ _ (fits_take (by omega) (fits_itemR hf)) (by omega) (by omega)
def itemsR (t : ByteArray) (s : RS) (f : Nat → Bool) : RS × (Nat → Bool) := itemsG t (leftR t s) s f
theorem itemsR_bad {t : ByteArray} {s : RS} {f : Nat → Bool} (h : s.2 = true) : itemsR t s f = (s, f) := by
  unfold itemsR leftR; rw [if_pos h, itemsG]
theorem itemsR_end {t : ByteArray} {s : RS} {f : Nat → Bool} (h : s.2 = false) (hc : (takeS t 93 (itemR t s f).1).1 = true) : itemsR t s f = ((takeS t 93 (itemR t s f).1).2, (itemR t s f).2) := by
  unfold itemsR leftR; rw [if_neg (by rw [h]; decide), itemsG, if_neg (by rw [h]; decide), if_pos hc]
theorem itemsR_on {t : ByteArray} {s : RS} {f : Nat → Bool} (hf : Fits t s) (h : s.2 = false) (hc : (takeS t 93 (itemR t s f).1).1 = false) :
    itemsR t s f = itemsR t (takeS t 93 (itemR t s f).1).2 (itemR t s f).2 := by
  have hd := leftR_down (f := f) hf h
  unfold itemsR
  obtain ⟨n, hn⟩ : ∃ n, leftR t s = n + 1 := ⟨leftR t s - 1, by omega⟩
  rw [hn, itemsG, if_neg (by rw [h]; decide), if_neg (by rw [hc]; decide)]
  exact itemsG_more t _ _ _ _ (fits_take (by omega) (fits_itemR hf)) (by omega) (Nat.le_refl _)

/-- A part of a pattern; its kids by their numbers. -/
structure PN where
  kind : Int
  ins : Nat → Bool := fun _ => false
  neg : Bool := false
  kids : List Nat := []
  least : Int := 0
  most : Int := 0
abbrev RP := RS × List PN
def pushP (p : PN) (st : RP) : Nat × RP := (st.2.length, (st.1, st.2 ++ [p]))

/-- Behind a {: the bounds. -/
def bndMost (t : ByteArray) (s : RS) : Int × (Bool × RS) :=
  let m := tkS t s
  let c := takeS t 44 m.2
  let d := takeS t 125 c.2
  if c.1 = true ∧ d.1 = true then (-1, d)
  else if c.1 = true then
    let n := tkS t d.2
    let e := takeS t 125 n.2
    (n.1 - 48, (e.1, if n.1 < 48 ∨ 57 < n.1 ∨ n.1 - 48 < m.1 - 48 then markS e.2 else e.2))
  else (m.1 - 48, d)
def bndR (t : ByteArray) (s : RS) : (Int × Int) × RS :=
  (((tkS t s).1 - 48, (bndMost t s).1), if (tkS t s).1 < 48 ∨ 57 < (tkS t s).1 ∨ (bndMost t s).2.1 = false then markS (bndMost t s).2.2 else (bndMost t s).2.2)
/-- One repeat: its bounds. -/
def repR (t : ByteArray) (s : RS) : (Int × Int) × RS :=
  if (tkS t s).1 = 43 then ((1, -1), (tkS t s).2)
  else if (tkS t s).1 = 63 then ((0, 1), (tkS t s).2)
  else if (tkS t s).1 = 123 then bndR t (tkS t s).2
  else ((0, -1), (tkS t s).2)

def one (c : Int) : Nat → Bool := fun i => decide ((i : Int) = c)
/-- An atom that is no group, behind its first byte c. -/
def plainR (t : ByteArray) (c : Int) (st : RP) : Nat × RP :=
  if c = 91 then pushP { kind := 1, ins := (itemsR t (takeS t 94 st.1).2 (fun _ => false)).2, neg := (takeS t 94 st.1).1 } ((itemsR t (takeS t 94 st.1).2 (fun _ => false)).1, st.2)
  else if c = 94 then pushP { kind := 2, ins := one 94 } st
  else if c = 36 then pushP { kind := 3, ins := one 36 } st
  else if c = 46 then pushP { kind := 1, neg := true } st
  else if c = 92 then pushP { kind := 1, ins := one (tkS t st.1).1 } ((tkS t st.1).2, st.2)
  else pushP { kind := 1, ins := one c } st
def openR (t : ByteArray) (s : RS) : RS := if stB t s [42, 43, 63, 123] = true then markS s else s
def closeR (t : ByteArray) (r : Nat × RP) : Nat × RP := (r.1, (if (takeS t 41 r.2.1).1 = true then (takeS t 41 r.2.1).2 else markS (takeS t 41 r.2.1).2, r.2.2))
/-- Does the branch go on? -/
def moreR (t : ByteArray) (s : RS) : Bool := !stB t s [124, 41] && decide (s.1 < t.size) && !s.2

/-- tag 0: a choice, some of its branches being known; 1: a branch, some of its pieces being known; 2: a piece; 3: an atom; 4: what may follow an atom in its piece. -/
def goR (t : ByteArray) : Nat → Nat → List Nat → RP → Nat × RP
  | 0, _, _, st => (0, st)
  | f + 1, tag, cur, st =>
    if tag = 0 then
      let b := goR t f 1 [] st
      let m := takeS t 124 b.2.1
      if m.1 = false ∨ m.2.2 = true then pushP { kind := 5, kids := cur ++ [b.1] } (m.2, b.2.2)
      else goR t f 0 (cur ++ [b.1]) (m.2, b.2.2)
    else if tag = 1 then
      if moreR t st.1 = true then goR t f 1 (cur ++ [(goR t f 2 [] st).1]) (goR t f 2 [] st).2
      else pushP { kind := 4, kids := cur } st
    else if tag = 2 then goR t f 4 [(goR t f 3 [] st).1] (goR t f 3 [] st).2
    else if tag = 3 then
      if (tkS t (openR t st.1)).1 = 40 then closeR t (goR t f 0 [] ((tkS t (openR t st.1)).2, st.2))
      else plainR t (tkS t (openR t st.1)).1 ((tkS t (openR t st.1)).2, st.2)
    else
      if st.1.2 = true ∨ stB t st.1 [42, 43, 63, 123] = false then (cur.headD 0, st)
      else
        let y := pushP { kind := 6, kids := cur, least := (repR t st.1).1.1, most := (repR t st.1).1.2 } ((repR t st.1).2, st.2)
        goR t f 4 [y.1] y.2

def EvR (t : ByteArray) (tag : Nat) (cur : List Nat) (st : RP) (r : Nat × RP) : Prop := ∃ f0, ∀ f, f0 ≤ f → goR t f tag cur st = r

end Go.Proofs.Ytgifhgnccmnbiaa
