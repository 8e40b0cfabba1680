/- The lines of a text, plainly. No Go in it. -/
import Derived.Test.YtgifhgnccmnbiaaG01
import Derived.Deep.DeepCutAuto
import Derived.Deep.Cut
import Derived.Deep.CutRange
import Derived.Test.YtgifhgnccmnbiaaG02
set_option linter.unusedVariables false
set_option linter.unusedSimpArgs false
namespace Go.Proofs.Ytgifhgnccmnbiaa

/-- The lines of at, which is a line's beginning, and what is behind it. -/
def linesA : List Nat → List Nat → List (List Nat)
  | at', [] => if at' = [] then [] else [at']
  | at', c :: r => if c = 10 then at' :: linesA [] r else linesA (at' ++ [c]) r
def linesL (X : List Nat) : List (List Nat) := linesA [] X
theorem linesA_nl (a r : List Nat) : linesA a (10 :: r) = a :: linesA [] r := by rw [linesA, if_pos rfl]
theorem linesA_c {c : Nat} (h : c ≠ 10) (a r : List Nat) : linesA a (c :: r) = linesA (a ++ [c]) r := by rw [linesA, if_neg h]
theorem linesA_len : ∀ (X a : List Nat), (linesA a X).length = nls X + if X = [] then (if a = [] then 0 else 1) else if X.getLastD 0 ≠ 10 then 1 else 0
  | [], a => by
    by_cases h : a = []
    · subst h; rfl
    · rw [linesA, if_neg h, if_pos rfl, if_neg h]; rfl
  | c :: r, a => by
    rw [linesA]
    by_cases hc : c = 10
    · rw [if_pos hc, List.length_cons, linesA_len r []]
      subst hc
      cases r with
      | nil => rfl
      | cons d r =>
        have : nls (10 :: d :: r) = nls (d :: r) + 1 := rfl
        rw [this, if_neg (List.cons_ne_nil _ _), if_neg (List.cons_ne_nil _ _)]
        simp only [List.getLastD_cons]
        omega
    · rw [if_neg hc, linesA_len r (a ++ [c])]
      have hn : nls (c :: r) = nls r := by
        unfold nls; rw [List.filter_cons_of_neg (by simpa using hc)]
      rw [hn]
      cases r with
      | nil => simp [hc]
      | cons d r =>
        rw [if_neg (List.cons_ne_nil _ _), if_neg (List.cons_ne_nil _ _)]
        simp only [List.getLastD_cons]
theorem linesL_len {X : List Nat} (h : X.length ≤ 1099511627776) : (linesL X).length = linesS (ptOf X) := by
  unfold linesL
  rw [linesA_len]
  unfold linesS
  have hn := nls_le X
  by_cases hx : X = []
  · subst hx; rfl
  · have hpos : 0 < X.length := List.length_pos_iff.2 hx
    rw [if_neg hx, ptOf_len, ptOf_nl, capL_of (by omega), capL_of (by omega)]
    have hl : (ptOf X).last = X.getLastD 0 := by unfold ptOf; rw [if_neg hx]
    rw [hl]
    by_cases h10 : X.getLastD 0 = 10
    · rw [if_neg (fun hc => hc h10), if_neg (fun hc => hc.2 h10)]; rfl
    · rw [if_pos h10, if_pos ⟨hpos, h10⟩]
/-- No line has a newline, none is longer than the text. -/
theorem linesA_ok : ∀ (X a : List Nat), (∀ c, c ∈ a → c ≠ 10) → ∀ l, l ∈ linesA a X → (∀ c, c ∈ l → c ≠ 10) ∧ l.length ≤ a.length + X.length ∧ (∀ c, c ∈ l → c ∈ a ∨ c ∈ X)
  | [], a, ha, l, hl => by
    rw [linesA] at hl
    split at hl
    · simp at hl
    · simp at hl; subst hl; exact ⟨ha, by simp, fun c hc => Or.inl hc⟩
  | c :: r, a, ha, l, hl => by
    rw [linesA] at hl
    by_cases hc : c = 10
    · rw [if_pos hc] at hl
      rcases List.mem_cons.1 hl with hl | hl
      · subst hl; exact ⟨ha, by simp, fun c hc => Or.inl hc⟩
      · obtain ⟨h1, h2, h3⟩ := linesA_ok r [] (by simp) l hl
        refine ⟨h1, by simp at h2 ⊢; omega, fun c hc => ?_⟩
        rcases h3 c hc with h3 | h3
        · simp at h3
        · exact Or.inr (by simp [h3])
    · rw [if_neg hc] at hl
      obtain ⟨h1, h2, h3⟩ := linesA_ok r (a ++ [c]) (fun d hd => by
        rcases List.mem_append.1 hd with hd | hd
        · exact ha d hd
        · simp at hd; subst hd; exact hc) l hl
      refine ⟨h1, by simp at h2 ⊢; omega, fun d hd => ?_⟩
      rcases h3 d hd with h3 | h3
      · rcases List.mem_append.1 h3 with h3 | h3
        · exact Or.inl h3
        · simp at h3; subst h3; exact Or.inr (by simp)
      · exact Or.inr (by simp [h3])
theorem linesA_count : ∀ (X a : List Nat), (linesA a X).length ≤ 1 + X.length
  | [], a => by rw [linesA]; split <;> simp
  | c :: r, a => by
    rw [linesA]
    split
    · have := linesA_count r []; simp at this ⊢; omega
    · have := linesA_count r (a ++ [c]); simp; omega

end Go.Proofs.Ytgifhgnccmnbiaa

set_option linter.unusedVariables false
set_option linter.unusedSimpArgs false
namespace Go.Proofs.Ytgifhgnccmnbiaa

/-- The next byte is taken; at the end that is bad. -/
def tkS (t : ByteArray) (s : RS) : Int × RS := if s.1 < t.size then (pk t s.1, (s.1 + 1, s.2)) else (0, (s.1, true))
/-- Is the next byte one of these? -/
def stB (t : ByteArray) (s : RS) (l : List UInt8) : Bool := l.any (fun c => pk t s.1 == (c.toNat : Int))
def markS (s : RS) : RS := (s.1, true)

theorem tk_ge {t : ByteArray} {s : RS} : s.1 ≤ (tkS t s).2.1 := by
  unfold tkS; split
  · exact Nat.le_succ _
  · exact Nat.le_refl _
theorem fits_tk {t : ByteArray} {s : RS} (h : Fits t s) : Fits t (tkS t s).2 := by
  unfold tkS; split
  · rename_i h2; exact h2
  · exact h
theorem tk_bd (t : ByteArray) (s : RS) : 0 ≤ (tkS t s).1 ∧ (tkS t s).1 ≤ 255 := by
  unfold tkS; split
  · rename_i h; rw [pk_lt h]; have := t[s.1].toNat_lt; simp only []; omega
  · simp

/-- A member of a list. -/
def memR (t : ByteArray) (s : RS) : Int × RS := tkS t (takeS t 92 (if stB t s [93] = true then markS s else s)).2
theorem fits_memR {t : ByteArray} {s : RS} (h : Fits t s) : Fits t (memR t s).2 := by
  unfold memR
  refine fits_tk (fits_take (by omega) ?_)
  split <;> exact h
theorem memR_bd (t : ByteArray) (s : RS) : 0 ≤ (memR t s).1 ∧ (memR t s).1 ≤ 255 := tk_bd _ _
theorem memR_ge {t : ByteArray} {s : RS} : s.1 ≤ (memR t s).2.1 := by
  unfold memR
  refine Nat.le_trans ?_ (Nat.le_trans take_ge tk_ge)
  split <;> exact Nat.le_refl _
/-- A member is taken, or that is bad. -/
theorem memR_on {t : ByteArray} {s : RS} : s.1 < (memR t s).2.1 ∨ (memR t s).2.2 = true := by
  unfold memR
  generalize hx : (if stB t s [93] = true then markS s else s) = x
  have hx1 : x.1 = s.1 := by rw [← hx]; split <;> rfl
  generalize hy : (takeS t 92 x).2 = y
  have h1 : x.1 ≤ y.1 := by rw [← hy]; exact take_ge
  unfold tkS
  split
  · left; simp only []; omega
  · right; rfl

/-- What is bad stays bad. -/
theorem tk_bad {t : ByteArray} {s : RS} (h : s.2 = true) : (tkS t s).2.2 = true := by unfold tkS; split <;> first | exact h | rfl
theorem take_bad {t : ByteArray} {c : Int} {s : RS} (h : s.2 = true) : (takeS t c s).2.2 = true := by unfold takeS; split <;> exact h
theorem memR_bad {t : ByteArray} {s : RS} (h : s.2 = true) : (memR t s).2.2 = true := by
  unfold memR
  refine tk_bad (take_bad ?_)
  split
  · rfl
  · exact h

/-- The greater member, and where the reader then stands. -/
def toR (t : ByteArray) (s : RS) : Int × RS := if secS t (memR t s).2 = true then memR t (tkS t (memR t s).2).2 else memR t s
def fillB (f : Nat → Bool) (lo hi : Int) : Nat → Bool := fun i => f i || decide (lo ≤ (i : Int) ∧ (i : Int) ≤ hi)
/-- One item: where the reader stands behind it; the bytes that are in. -/
def itemR (t : ByteArray) (s : RS) (f : Nat → Bool) : RS × (Nat → Bool) :=
  (if (toR t s).1 < (memR t s).1 then markS (toR t s).2 else (toR t s).2, fillB f (memR t s).1 (toR t s).1)
theorem fits_toR {t : ByteArray} {s : RS} (h : Fits t s) : Fits t (toR t s).2 := by
  have h1 := fits_memR h
  unfold toR
  split
  · exact fits_memR (fits_tk h1)
  · exact h1
theorem toR_bd (t : ByteArray) (s : RS) : 0 ≤ (toR t s).1 ∧ (toR t s).1 ≤ 255 := by
  unfold toR
  split
  · exact memR_bd _ _
  · exact memR_bd _ _
theorem toR_ge {t : ByteArray} {s : RS} : (memR t s).2.1 ≤ (toR t s).2.1 := by
  unfold toR
  split
  · exact Nat.le_trans tk_ge memR_ge
  · exact Nat.le_refl _
theorem toR_bad {t : ByteArray} {s : RS} (h : (memR t s).2.2 = true) : (toR t s).2.2 = true := by
  unfold toR
  split
  · exact memR_bad (tk_bad h)
  · exact h
theorem fits_itemR {t : ByteArray} {s : RS} {f : Nat → Bool} (h : Fits t s) : Fits t (itemR t s f).1 := by
  unfold itemR
  simp only []
  split
  · exact fits_toR h
  · exact fits_toR h
theorem itemR_ge {t : ByteArray} {s : RS} {f : Nat → Bool} : s.1 ≤ (itemR t s f).1.1 := by
  unfold itemR
  simp only []
  split
  · exact Nat.le_trans memR_ge toR_ge
  · exact Nat.le_trans memR_ge toR_ge
theorem itemR_on {t : ByteArray} {s : RS} {f : Nat → Bool} : s.1 < (itemR t s f).1.1 ∨ (itemR t s f).1.2 = true := by
  have h0 := memR_on (t := t) (s := s)
  have h2 := toR_ge (t := t) (s := s)
  unfold itemR
  simp only []
  split
  · right; rfl
  · rcases h0 with h0 | h0
    · left; omega
    · right; exact toR_bad h0

/-- The items of a list, to its end. -/
def itemsG (t : ByteArray) : Nat → RS → (Nat → Bool) → RS × (Nat → Bool)
  | 0, s, f => (s, f)
  | n + 1, s, f =>
    if s.2 = true then (s, f)
    else if (takeS t 93 (itemR t s f).1).1 = true then ((takeS t 93 (itemR t s f).1).2, (itemR t s f).2)
    else itemsG t n (takeS t 93 (itemR t s f).1).2 (itemR t s f).2
/-- How many rounds are left at most. -/
def leftR (t : ByteArray) (s : RS) : Nat := if s.2 = true then 0 else t.size - s.1 + 1
theorem leftR_down {t : ByteArray} {s : RS} {f : Nat → Bool} (hf : Fits t s) (hb : s.2 = false) : leftR t (takeS t 93 (itemR t s f).1).2 < leftR t s := by
  have h1 := itemR_on (t := t) (s := s) (f := f)
  have h2 := take_ge (t := t) (c := 93) (s := (itemR t s f).1)
  have h3 := fits_itemR (f := f) hf
  have h4 := fits_take (c := 93) (by omega) h3
  simp only [Fits] at h3 h4 hf
  have e : leftR t s = t.size - s.1 + 1 := by unfold leftR; rw [if_neg (by rw [hb]; decide)]
  rw [e]
  unfold leftR
  rcases h1 with h1 | h1
  · split <;> omega
  · rw [if_pos (take_bad h1)]; omega
theorem itemsG_more (t : ByteArray) : ∀ (m n : Nat) (s : RS) (f : Nat → Bool), Fits t s → leftR t s ≤ m → leftR t s ≤ n → itemsG t m s f = itemsG t n s f
  | 0, 0, _, _, _, _, _ => rfl
  | 0, n + 1, s, f, hf, h, _ => by
    rw [itemsG, itemsG, if_pos]
    cases hb : s.2 with
    | true => rfl
    | false => unfold leftR at h; rw [if_neg (by rw [hb]; decide)] at h; omega
  | m + 1, 0, s, f, hf, _, h => by
    rw [itemsG, itemsG, if_pos]
    cases hb : s.2 with
    | true => rfl
    | false => unfold leftR at h; rw [if_neg (by rw [hb]; decide)] at h; omega
  | m + 1, n + 1, s, f, hf, h1, h2 => by
    rw [itemsG, itemsG]
    split
    · rfl
    · rename_i hb
      have hb : s.2 = false := by simpa using hb
      have := leftR_down (f := f) hf hb
      split
      · rfl
      · exact itemsG_more t m n _ _ (fits_take (by omega) (fits_itemR hf)) (by omega) (by omega)
def itemsR (t : ByteArray) (s : RS) (f : Nat → Bool) : RS × (Nat → Bool) := itemsG t (leftR t s) s f
theorem itemsR_bad {t : ByteArray} {s : RS} {f : Nat → Bool} (h : s.2 = true) : itemsR t s f = (s, f) := by
  unfold itemsR leftR; rw [if_pos h, itemsG]
theorem itemsR_end {t : ByteArray} {s : RS} {f : Nat → Bool} (h : s.2 = false) (hc : (takeS t 93 (itemR t s f).1).1 = true) : itemsR t s f = ((takeS t 93 (itemR t s f).1).2, (itemR t s f).2) := by
  unfold itemsR leftR; rw [if_neg (by rw [h]; decide), itemsG, if_neg (by rw [h]; decide), if_pos hc]
theorem itemsR_on {t : ByteArray} {s : RS} {f : Nat → Bool} (hf : Fits t s) (h : s.2 = false) (hc : (takeS t 93 (itemR t s f).1).1 = false) :
    itemsR t s f = itemsR t (takeS t 93 (itemR t s f).1).2 (itemR t s f).2 := by
  have hd := leftR_down (f := f) hf h
  unfold itemsR
  obtain ⟨n, hn⟩ : ∃ n, leftR t s = n + 1 := ⟨leftR t s - 1, by omega⟩
  rw [hn, itemsG, if_neg (by rw [h]; decide), if_neg (by rw [hc]; decide)]
  exact itemsG_more t _ _ _ _ (fits_take (by omega) (fits_itemR hf)) (by omega) (Nat.le_refl _)

/-- A part of a pattern; its kids by their numbers. -/
structure PN where
  kind : Int
  ins : Nat → Bool := fun _ => false
  neg : Bool := false
  kids : List Nat := []
  least : Int := 0
  most : Int := 0
abbrev RP := RS × List PN
def pushP (p : PN) (st : RP) : Nat × RP := (st.2.length, (st.1, st.2 ++ [p]))

/-- Behind a {: the bounds. -/
def bndMost (t : ByteArray) (s : RS) : Int × (Bool × RS) :=
  let m := tkS t s
  let c := takeS t 44 m.2
  let d := takeS t 125 c.2
  if c.1 = true ∧ d.1 = true then (-1, d)
  else if c.1 = true then
    let n := tkS t d.2
    let e := takeS t 125 n.2
    (n.1 - 48, (e.1, if n.1 < 48 ∨ 57 < n.1 ∨ n.1 - 48 < m.1 - 48 then markS e.2 else e.2))
  else (m.1 - 48, d)
def bndR (t : ByteArray) (s : RS) : (Int × Int) × RS :=
  (((tkS t s).1 - 48, (bndMost t s).1), if (tkS t s).1 < 48 ∨ 57 < (tkS t s).1 ∨ (bndMost t s).2.1 = false then markS (bndMost t s).2.2 else (bndMost t s).2.2)
/-- One repeat: its bounds. -/
def repR (t : ByteArray) (s : RS) : (Int × Int) × RS :=
  if (tkS t s).1 = 43 then ((1, -1), (tkS t s).2)
  else if (tkS t s).1 = 63 then ((0, 1), (tkS t s).2)
  else if (tkS t s).1 = 123 then bndR t (tkS t s).2
  else ((0, -1), (tkS t s).2)

def one (c : Int) : Nat → Bool := fun i => decide ((i : Int) = c)
/-- An atom that is no group, behind its first byte c. -/
def plainR (t : ByteArray) (c : Int) (st : RP) : Nat × RP :=
  if c = 91 then pushP { kind := 1, ins := (itemsR t (takeS t 94 st.1).2 (fun _ => false)).2, neg := (takeS t 94 st.1).1 } ((itemsR t (takeS t 94 st.1).2 (fun _ => false)).1, st.2)
  else if c = 94 then pushP { kind := 2, ins := one 94 } st
  else if c = 36 then pushP { kind := 3, ins := one 36 } st
  else if c = 46 then pushP { kind := 1, neg := true } st
  else if c = 92 then pushP { kind := 1, ins := one (tkS t st.1).1 } ((tkS t st.1).2, st.2)
  else pushP { kind := 1, ins := one c } st
def openR (t : ByteArray) (s : RS) : RS := if stB t s [42, 43, 63, 123] = true then markS s else s
def closeR (t : ByteArray) (r : Nat × RP) : Nat × RP := (r.1, (if (takeS t 41 r.2.1).1 = true then (takeS t 41 r.2.1).2 else markS (takeS t 41 r.2.1).2, r.2.2))
/-- Does the branch go on? -/
def moreR (t : ByteArray) (s : RS) : Bool := !stB t s [124, 41] && decide (s.1 < t.size) && !s.2

/-- tag 0: a choice, some of its branches being known; 1: a branch, some of its pieces being known; 2: a piece; 3: an atom; 4: what may follow an atom in its piece. -/
def goR (t : ByteArray) : Nat → Nat → List Nat → RP → Nat × RP
  | 0, _, _, st => (0, st)
  | f + 1, tag, cur, st =>
    if tag = 0 then
      let b := goR t f 1 [] st
      let m := takeS t 124 b.2.1
      if m.1 = false ∨ m.2.2 = true then pushP { kind := 5, kids := cur ++ [b.1] } (m.2, b.2.2)
      else goR t f 0 (cur ++ [b.1]) (m.2, b.2.2)
    else if tag = 1 then
      if moreR t st.1 = true then goR t f 1 (cur ++ [(goR t f 2 [] st).1]) (goR t f 2 [] st).2
      else pushP { kind := 4, kids := cur } st
    else if tag = 2 then goR t f 4 [(goR t f 3 [] st).1] (goR t f 3 [] st).2
    else if tag = 3 then
      if (tkS t (openR t st.1)).1 = 40 then closeR t (goR t f 0 [] ((tkS t (openR t st.1)).2, st.2))
      else plainR t (tkS t (openR t st.1)).1 ((tkS t (openR t st.1)).2, st.2)
    else
      if st.1.2 = true ∨ stB t st.1 [42, 43, 63, 123] = false then (cur.headD 0, st)
      else
        let y := pushP { kind := 6, kids := cur, least := (repR t st.1).1.1, most := (repR t st.1).1.2 } ((repR t st.1).2, st.2)
        goR t f 4 [y.1] y.2

def EvR (t : ByteArray) (tag : Nat) (cur : List Nat) (st : RP) (r : Nat × RP) : Prop := ∃ f0, ∀ f, f0 ≤ f → goR t f tag cur st = r

end Go.Proofs.Ytgifhgnccmnbiaa

set_option linter.unusedVariables false
set_option linter.unusedSimpArgs false
namespace Go.Proofs.Ytgifhgnccmnbiaa
open Go.RowKit Go.IntWalk

/-- What is left of a text from a place on. -/
def sfx (t : ByteArray) (p : Nat) : ByteArray := t.extract p t.size
theorem sfx_size {t : ByteArray} {p : Nat} : (sfx t p).size = t.size - p := by simp [sfx, ByteArray.size_extract]
theorem sfx_get {t : ByteArray} {p k : Nat} (h : p + k < t.size) (h' : k < (sfx t p).size) : (sfx t p)[k] = t[p + k] := by
  simp only [sfx]
  rw [ByteArray.getElem_extract]
theorem sfx_sfx {t : ByteArray} {p : Nat} (h : p ≤ t.size) : (sfx t p).extract 1 (sfx t p).size = sfx t (p + 1) := by
  rw [sfx_size]
  unfold sfx
  rw [ByteArray.extract_extract]
  congr 1
  omega

/-- The document's reader behind a pointer. -/
structure RR (w : World) (b : Nat) (t : ByteArray) (s : RS) : Prop where
  blk : Blk w b #[.string (sfx t s.1), .bool s.2] 107
  fits : Fits t s
  small : t.size ≤ 40
section
variable {w w' : World} {b : Nat} {t : ByteArray} {s : RS}
theorem RR.c0 (h : RR w b t s) : w.cell? ⟨b, 0, none⟩ = some (.string (sfx t s.1)) := by rw [Blk.cell h.blk]; rfl
theorem RR.c1 (h : RR w b t s) : w.cell? ⟨b, 1, none⟩ = some (.bool s.2) := by rw [Blk.cell h.blk]; rfl
theorem RR.f (h : RR w b t s) (j : Nat) : w.frozen? ⟨b, j, none⟩ = false := Blk.frozen h.blk j
theorem RR.on (h : RR w b t s) (hp : s.1 < t.size) : RR (w.setCell ⟨b, 0, none⟩ (.string (sfx t (s.1 + 1)))) b t (s.1 + 1, s.2) := ⟨Blk.set h.blk 0 _, hp, h.small⟩
theorem RR.mark (h : RR w b t s) : RR (w.setCell ⟨b, 1, none⟩ (.bool true)) b t (s.1, true) := ⟨Blk.set h.blk 1 _, h.fits, h.small⟩
theorem RR.kept {S : List Nat} (h : RR w b t s) (k : Kept S w w') (hb : ¬ b ∈ S) : RR w' b t s := ⟨Blk.kept h.blk k hb, h.fits, h.small⟩
theorem RR.drewN (h : RR w b t s) (n : Nat) : RR (w.drewN n) b t s := ⟨h.blk, h.fits, h.small⟩
end

set_option maxHeartbeats 400000 in
theorem rtake_any (b : Nat) (t : ByteArray) (s : RS) (w : World) (h : RR w b t s) :
    Calls Try.prog 129 #[.pointer (some ⟨b, 0, none⟩)] w fun e w' => e = .returned (.int .u8 (tkS t s).1) ∧ RR w' b t (tkS t s).2 ∧ Kept [b] w w' := by
  have h0 := h.c0
  have f0 := h.f 0
  have h1 := h.c1
  have f1 := h.f 1
  by_cases hp : s.1 < t.size
  · have e : tkS t s = (pk t s.1, (s.1 + 1, s.2)) := if_pos hp
    have hz : (((sfx t s.1).size : Int) == 0) = false := by rw [sfx_size]; simp; omega
    have hl : 0 < (sfx t s.1).size := by rw [sfx_size]; omega
    have hg := sfx_get (t := t) (p := s.1) (k := 0) (by omega) hl
    have hx : Hid (_ = _) := sfx_sfx (t := t) (p := s.1) (by omega)
    have hon := h.on hp
    rw [e]
    clear e
    go_enter Try.func129, Try.ntmps129
    go_wp2
    rw [hx.out]
    go_ret
    exact ⟨by rw [pk_lt hp]; rfl, hon, (Kept.refl _ _).setCell (by simp) _⟩
  · have e : tkS t s = (0, (s.1, true)) := if_neg hp
    have hz : (((sfx t s.1).size : Int) == 0) = true := by rw [sfx_size]; simp; omega
    have hon := h.mark
    rw [e]
    clear e
    go_enter Try.func129, Try.ntmps129
    go_wp2
    go_ret
    exact ⟨rfl, hon, (Kept.refl _ _).setCell (by simp) _⟩

theorem byte_eq {t : ByteArray} {p : Nat} (h : p < t.size) (c : Int) : ((t[p].toNat : Int) == c) = (pk t p == c) := by rw [pk_lt h]

set_option maxHeartbeats 400000 in
theorem rnext_any (b : Nat) (c : Int) (t : ByteArray) (s : RS) (w : World) (h : RR w b t s) (hc : 0 ≤ c) (hc' : c ≤ 255) :
    Calls Try.prog 93 #[.pointer (some ⟨b, 0, none⟩), .int .u8 c] w fun e w' => e = .returned (.bool (takeS t c s).1) ∧ RR w' b t (takeS t c s).2 ∧ Kept [b] w w' := by
  have h0 := h.c0
  have f0 := h.f 0
  by_cases hn : pk t s.1 = c
  · have hp : s.1 < t.size := pk_some (by omega)
    have e : takeS t c s = (true, (s.1 + 1, s.2)) := if_pos hn
    have hl : 0 < (sfx t s.1).size := by rw [sfx_size]; omega
    have hg := sfx_get (t := t) (p := s.1) (k := 0) (by omega) hl
    have hb : ((t[s.1].toNat : Int) == c) = true := by rw [byte_eq hp, hn]; simp
    have hx : Hid (_ = _) := sfx_sfx (t := t) (p := s.1) (by omega)
    have hon := h.on hp
    rw [e]
    clear e hn
    go_enter Try.func93, Try.ntmps93
    go_wp2
    rw [hx.out]
    go_ret
    exact ⟨rfl, hon, (Kept.refl _ _).setCell (by simp) _⟩
  have e : takeS t c s = (false, s) := if_neg hn
  rw [e]
  clear e
  by_cases hp : s.1 < t.size
  · have hl : 0 < (sfx t s.1).size := by rw [sfx_size]; omega
    have hg := sfx_get (t := t) (p := s.1) (k := 0) (by omega) hl
    have hb : ((t[s.1].toNat : Int) == c) = false := by rw [byte_eq hp]; simpa using hn
    clear hn
    go_enter Try.func93, Try.ntmps93
    go_wp2
    go_ret
    exact ⟨rfl, h, Kept.refl _ _⟩
  · have hl : ¬ 0 < ((sfx t s.1).size : Int) := by rw [sfx_size]; omega
    clear hn
    go_enter Try.func93, Try.ntmps93
    go_wp2
    go_ret
    exact ⟨rfl, h, Kept.refl _ _⟩

theorem stB_snoc {t : ByteArray} {s : RS} {o : ByteArray} {k : Nat} (h : k < o.size) : stB t s (o.data.toList.take (k + 1)) = (stB t s (o.data.toList.take k) || (pk t s.1 == (o[k].toNat : Int))) := by
  rw [List.take_succ_eq_append_getElem (by simpa using h)]
  unfold stB
  rw [List.any_append]
  simp
  rfl
theorem stB_hit {t : ByteArray} {s : RS} {o : ByteArray} {k : Nat} (h : k < o.size) (hp : (pk t s.1 == (o[k].toNat : Int)) = true) : stB t s o.data.toList = true := by
  unfold stB
  rw [List.any_eq_true]
  exact ⟨o[k], List.getElem_mem (by simpa using h), hp⟩
theorem stB_none {t : ByteArray} {s : RS} {l : List UInt8} (h : ¬ s.1 < t.size) : stB t s l = false := by
  unfold stB
  rw [List.any_eq_false]
  intro c _
  rw [pk_ge h]
  simp

set_option maxHeartbeats 1000000 in
theorem stands_any (b : Nat) (t : ByteArray) (s : RS) (o : ByteArray) (w : World) (h : RR w b t s) (ho : o.size ≤ 10) :
    Calls Try.prog 91 #[.pointer (some ⟨b, 0, none⟩), .string o] w fun e w' => e = .returned (.bool (stB t s o.data.toList)) ∧ RR w' b t s ∧ Kept [b] w w' := by
  go_enter Try.func91, Try.ntmps91
  go_wp2_with fail
  go_loopw [5] (fun i wr => ∃ (k n : Nat), k ≤ o.size ∧ i = .int .i64 (k : Int) ∧ wr = w.drewN n ∧ stB t s (o.data.toList.take k) = false) (fun i _ => o.size - (intOf i).toNat)
  case atStart => exact ⟨0, 0, Nat.zero_le _, rfl, rfl, rfl⟩
  case round =>
    obtain ⟨k, n, hk, rfl, rfl, hs⟩ := hrel
    have hs : Hid (_ = _) := hs
    by_cases hlt : k < o.size
    · have h0 := h.c0
      by_cases hp : s.1 < t.size
      · have hl : (0 : Int) < ((sfx t s.1).size : Int) := by rw [sfx_size]; omega
        have hl' : 0 < (sfx t s.1).size := by omega
        have hg := sfx_get (t := t) (p := s.1) (k := 0) (by omega) hl'
        go_wp2_with fail
        go_quiet (fail)
        go_wp2
        · have hb : ((t[s.1].toNat : Int) == (o[k].toNat : Int)) = true := by assumption
          go_ret
          exact ⟨ret_bool (stB_hit hlt (by rw [← byte_eq hp]; exact hb)).symm, ⟨h.blk, h.fits, h.small⟩, ⟨rfl, rfl, rfl, Nat.le_refl _, fun _ _ _ => rfl⟩⟩
        · have hb : ((t[s.1].toNat : Int) == (o[k].toNat : Int)) = false := by assumption
          refine ⟨⟨k + 1, _, by omega, by go_num, rfl, ?_⟩, by simp [intOf]; omega⟩
          rw [stB_snoc hlt, hs.out, ← byte_eq hp, hb]; rfl
      · have hl : (sfx t s.1).size = 0 := by rw [sfx_size]; omega
        go_wp2_with fail
        go_quiet (fail)
        go_wp2
        refine ⟨⟨k + 1, _, by omega, by go_num, rfl, stB_none hp⟩, by simp [intOf]; omega⟩
    · have hk2 : k = o.size := by omega
      subst hk2
      have hfin : Hid (stB t s o.data.toList = false) := by
        have := hs.out
        rwa [List.take_of_length_le (by simp)] at this
      go_wp2
      go_ret
      exact ⟨ret_bool hfin.out.symm, ⟨h.blk, h.fits, h.small⟩, ⟨rfl, rfl, rfl, Nat.le_refl _, fun _ _ _ => rfl⟩⟩

theorem stands2 (b : Nat) (t : ByteArray) (s : RS) (a c : UInt8) (w : World) (h : RR w b t s) :
    Calls Try.prog 91 #[.pointer (some ⟨b, 0, none⟩), .string ⟨#[a, c]⟩] w fun e w' => e = .returned (.bool (stB t s [a, c])) ∧ RR w' b t s ∧ Kept [b] w w' := stands_any b t s _ w h (by simp [ByteArray.size])

end Go.Proofs.Ytgifhgnccmnbiaa

set_option linter.unusedVariables false
set_option linter.unusedSimpArgs false
namespace Go.Proofs.Ytgifhgnccmnbiaa
open Go.RowKit Go.IntWalk

theorem stands1 (b : Nat) (t : ByteArray) (s : RS) (w : World) (h : RR w b t s) :
    Calls Try.prog 91 #[.pointer (some ⟨b, 0, none⟩), .string ⟨#[93]⟩] w fun e w' => e = .returned (.bool (stB t s [93])) ∧ RR w' b t s ∧ Kept [b] w w' := stands_any b t s _ w h (by decide)

set_option maxHeartbeats 400000 in
theorem rmember_any (b : Nat) (t : ByteArray) (s : RS) (w : World) (h : RR w b t s) :
    Calls Try.prog 161 #[.pointer (some ⟨b, 0, none⟩)] w fun e w' => e = .returned (.int .u8 (memR t s).1) ∧ RR w' b t (memR t s).2 ∧ Kept [b] w w' := by
  by_cases hq : stB t s [93] = true
  · have e : memR t s = tkS t (takeS t 92 (markS s)).2 := by unfold memR; rw [if_pos hq]
    rw [e]
    clear e
    go_enter Try.func161, Try.ntmps161
    go_wp2_with fail
    refine (stands1 b t s _ h).mono ?_
    rintro e w1 ⟨rfl, h1, k1⟩
    have c1 := h1.c1
    have f1 := h1.f 1
    have h2 : RR _ b t (markS s) := h1.mark
    go_wp2_with fail
    refine (rnext_any b 92 t _ _ h2 (by omega) (by omega)).mono ?_
    rintro e w3 ⟨rfl, h3, k3⟩
    go_wp2_with fail
    refine (rtake_any b t _ _ h3).mono ?_
    rintro e w4 ⟨rfl, h4, k4⟩
    go_wp2
    go_ret
    exact ⟨rfl, h4, ((k1.trans ((Kept.refl _ _).setCell (by simp) _)).trans k3).trans k4⟩
  · have e : memR t s = tkS t (takeS t 92 s).2 := by unfold memR; rw [if_neg hq]
    have hq : stB t s [93] = false := by simpa using hq
    rw [e]
    clear e
    go_enter Try.func161, Try.ntmps161
    go_wp2_with fail
    refine (stands1 b t s _ h).mono ?_
    rintro e w1 ⟨rfl, h1, k1⟩
    go_wp2_with fail
    refine (rnext_any b 92 t _ _ h1 (by omega) (by omega)).mono ?_
    rintro e w3 ⟨rfl, h3, k3⟩
    go_wp2_with fail
    refine (rtake_any b t _ _ h3).mono ?_
    rintro e w4 ⟨rfl, h4, k4⟩
    go_wp2
    go_ret
    exact ⟨rfl, h4, (k1.trans k3).trans k4⟩

/-- The 256 truths of a part. -/
def boolCells (f : Nat → Bool) : Array Value := ((List.range 256).map (fun i => Value.bool (f i))).toArray
theorem boolCells_get (f : Nat → Bool) {i : Nat} (h : i < 256) : (boolCells f)[i]? = some (.bool (f i)) := by simp [boolCells, h]
theorem boolCells_set (f f' : Nat → Bool) (i : Nat) (h : ∀ j, j < 256 → f' j = if j = i then true else f j) : (boolCells f).setIfInBounds i (.bool true) = boolCells f' := by
  apply Array.ext
  · simp [boolCells]
  · intro j h1 h2
    have hj : j < 256 := by simpa [boolCells] using h2
    rw [Array.getElem_setIfInBounds (by simpa [boolCells] using hj)]
    simp only [boolCells, List.getElem_toArray, List.getElem_map, List.getElem_range]
    rw [h j hj]
    by_cases hji : i = j
    · subst hji; simp
    · rw [if_neg hji, if_neg (by omega)]

/-- A part as it lies in memory. -/
def partCells (kind : Int) (ins : Value) (neg : Bool) (kids : Value) (least most : Int) : Array Value :=
  #[.int .i64 kind, ins, .bool neg, kids, .int .i64 least, .int .i64 most]

theorem sec_false1 {t : ByteArray} {s : RS} (h : ¬ s.1 + 1 < t.size) : secS t s = false := by
  unfold secS
  rw [pk_ge (p := s.1 + 1) h]
  simp
theorem sec_eq {t : ByteArray} {s : RS} (h : s.1 + 1 < t.size) : secS t s = ((t[s.1].toNat : Int) == 45 && ((t[s.1 + 1].toNat : Int) != 93)) := by
  unfold secS
  rw [pk_lt (p := s.1) (by omega), pk_lt h]
  have : ((t[s.1 + 1].toNat : Int) != -1) = true := by rw [bne_iff_ne]; omega
  rw [this]
  simp

/-- In the midst of a list. -/
structure LM (w0 w : World) (b a g : Nat) (t : ByteArray) (neg : Bool) (s : RS) (f : Nat → Bool) : Prop where
  rr : RR w b t s
  part : Blk w a #[.int .i64 1, .slice (some ⟨g, 0, none⟩) 256 256, .bool neg, .slice none 0 0, .int .i64 0, .int .i64 0] 160
  ins : Blk w g (boolCells f) 4
  kept : Kept [b, a, g] w0 w
section
variable {w0 w w' : World} {b a g : Nat} {t : ByteArray} {neg : Bool} {s s' : RS} {f f' : Nat → Bool}
theorem LM.scan (h : LM w0 w b a g t neg s f) (r : RR w' b t s') (k : Kept [b] w w') (ha : a ≠ b) (hg : g ≠ b) : LM w0 w' b a g t neg s' f :=
  ⟨r, h.part.kept k (by simpa using ha), h.ins.kept k (by simpa using hg), h.kept.trans (k.mono (by simp))⟩
theorem LM.c1 (h : LM w0 w b a g t neg s f) : w.cell? ⟨a, 1, none⟩ = some (.slice (some ⟨g, 0, none⟩) 256 256) := by rw [h.part.cell]; rfl
theorem LM.set (h : LM w0 w b a g t neg s f) (hg : g ≠ b) (hag : a ≠ g) (i : Nat) (hi : ∀ j, j < 256 → f' j = if j = i then true else f j) :
    LM w0 (w.setCell ⟨g, i, none⟩ (.bool true)) b a g t neg s f' :=
  ⟨⟨Blk.other h.rr.blk _ _ (by omega), h.rr.fits, h.rr.small⟩, Blk.other h.part _ _ hag, by rw [← boolCells_set f f' i hi]; exact h.ins.set i _, h.kept.setCell (by simp) _⟩
end

/-- How many rounds are left, read off the reader's cells. -/
def leftW (w : World) (b : Nat) : Nat := match w.cell? ⟨b, 1, none⟩, w.cell? ⟨b, 0, none⟩ with | some (.bool false), some (.string x) => x.size + 1 | _, _ => 0
theorem leftW_eq {w : World} {b : Nat} {t : ByteArray} {s : RS} (h : RR w b t s) : leftW w b = leftR t s := by
  unfold leftW leftR
  rw [h.c0, h.c1]
  cases s.2 with
  | false => simp [sfx_size]
  | true => simp

set_option maxHeartbeats 4000000 in
set_option maxRecDepth 100000 in
theorem rlist_any (b a g : Nat) (t : ByteArray) (s : RS) (w : World) (h : RR w b t s)
    (ha : Blk w a #[.int .i64 1, .slice (some ⟨g, 0, none⟩) 256 256, .bool false, .slice none 0 0, .int .i64 0, .int .i64 0] 160) (hg : Blk w g (boolCells (fun _ => false)) 4)
    (hab : a ≠ b) (hgb : g ≠ b) (hag : a ≠ g) :
    Calls Try.prog 150 #[.pointer (some ⟨b, 0, none⟩), .pointer (some ⟨a, 0, none⟩)] w fun e w' => e = .returned (.tuple #[]) ∧
      LM w w' b a g t (takeS t 94 s).1 (itemsR t (takeS t 94 s).2 (fun _ => false)).1 (itemsR t (takeS t 94 s).2 (fun _ => false)).2 := by
  have hsm : Hid (t.size ≤ 40) := h.small
  go_enter Try.func150, Try.ntmps150
  go_wp2_with fail
  refine (rnext_any b 94 t s _ h (by omega) (by omega)).mono ?_
  rintro e w1 ⟨rfl, h1, k1⟩
  have a1 := ha.kept k1 (by simpa using hab)
  have g1 := hg.kept k1 (by simpa using hgb)
  have q0 := a1.frozen 2
  have q1 := a1.cell 2
  have m1 : LM w (w1.setCell ⟨a, 2, none⟩ (.bool (takeS t 94 s).1)) b a g t (takeS t 94 s).1 (takeS t 94 s).2 (fun _ => false) :=
    ⟨⟨Blk.other h1.blk _ _ (Ne.symm hab), h1.fits, h1.small⟩, a1.set 2 _, Blk.other g1 _ _ (Ne.symm hag), (k1.mono (by simp)).setCell (by simp) _⟩
  clear h ha hg h1 a1 g1
  go_wp2_with fail
  go_loopw [4] (fun cl wr => ∃ (c : Bool) (s' : RS) (f' : Nat → Bool), cl = .bool c ∧ LM w wr b a g t (takeS t 94 s).1 s' f' ∧ ((c = false ∧ itemsR t s' f' = itemsR t (takeS t 94 s).2 (fun _ => false)) ∨ (c = true ∧ (s', f') = itemsR t (takeS t 94 s).2 (fun _ => false))))
    (fun _ wr => leftW wr b)
  case atStart => exact ⟨false, _, _, rfl, m1, Or.inl ⟨rfl, rfl⟩⟩
  case round =>
    obtain ⟨c, s', f', rfl, m, hc⟩ := hrel
    obtain ⟨wo, rfl⟩ : ∃ wo : World, wo = wr := ⟨_, rfl⟩
    have hlw : Hid (_ = _) := leftW_eq m.rr
    rcases hc with ⟨rfl, hc⟩ | ⟨rfl, hc⟩
    case inr =>
      have hc : Hid (_ = _) := hc
      go_wp2
      go_end0
      refine ⟨rfl, ?_⟩
      rw [← hc.out]
      exact m
    have c1 := m.rr.c1
    by_cases hbad : s'.2 = true
    · have hc : Hid ((s', f') = itemsR t (takeS t 94 s).2 (fun _ => false)) := (itemsR_bad hbad).symm.trans hc
      rw [hbad] at c1
      clear hbad
      go_wp2
      go_end0
      refine ⟨rfl, ?_⟩
      rw [← hc.out]
      exact m
    have hbad : s'.2 = false := by simpa using hbad
    have hfit := m.rr.fits
    have hdown : Hid (_ < _) := leftR_down (f := f') hfit hbad
    have hcE : Hid (∀ hcl : (takeS t 93 (itemR t s' f').1).1 = true, _) := fun hcl => (itemsR_end hbad hcl).symm.trans hc
    have hcO : Hid (∀ hcl : (takeS t 93 (itemR t s' f').1).1 = false, _) := fun hcl => (itemsR_on hfit hbad hcl).symm.trans hc
    rw [hbad] at c1
    clear hbad hc
    go_wp2_with fail
    refine (rmember_any b t s' _ m.rr).mono ?_
    rintro e w2 ⟨rfl, h2, k2⟩
    have m2 := m.scan h2 k2 hab hgb
    have c2 := m2.rr.c0
    go_upto_region 5 with fail
    go_cut [46] (fun s46 wx => s46 = .bool (secS t (memR t s').2) ∧ wx = w2)
    case first =>
      by_cases hp : (memR t s').2.1 + 1 < t.size
      · have hl : (1 : Int) < ((sfx t (memR t s').2.1).size : Int) := by rw [sfx_size]; omega
        have hl' : 1 < (sfx t (memR t s').2.1).size := by omega
        have hg0 := sfx_get (t := t) (p := (memR t s').2.1) (k := 0) (by omega) (by omega)
        have hg1 := sfx_get (t := t) (p := (memR t s').2.1) (k := 1) (by omega) (by omega)
        have hse := sec_eq (t := t) (s := (memR t s').2) hp
        cases e0 : ((t[(memR t s').2.1].toNat : Int) == 45) with
        | false =>
          rw [e0, Bool.false_and] at hse
          have hse : Hid (_ = _) := hse
          go_wp2
          all_goals go_meet
          all_goals exact ⟨by rw [hse.out], rfl⟩
        | true =>
          cases e1 : ((t[(memR t s').2.1 + 1].toNat : Int) != 93) with
          | false =>
            rw [e0, e1, Bool.true_and] at hse
            have hse : Hid (_ = _) := hse
            go_wp2
            all_goals go_meet
            all_goals exact ⟨by rw [hse.out], rfl⟩
          | true =>
            rw [e0, e1, Bool.true_and] at hse
            have hse : Hid (_ = _) := hse
            go_wp2
            all_goals go_meet
            all_goals exact ⟨by rw [hse.out], rfl⟩
      · have hl : ¬ (1 : Int) < ((sfx t (memR t s').2.1).size : Int) := by rw [sfx_size]; omega
        have hse : Hid (_ = _) := sec_false1 (t := t) (s := (memR t s').2) hp
        go_wp2
        all_goals go_meet
        all_goals refine ⟨?_, rfl⟩
        all_goals rw [hse.out]
    case rest =>
      obtain ⟨rfl, rfl⟩ := hcut
      go_upto_if 46 with fail
      have hfit2 := h2.fits
      go_cut [6] (fun s6 wx => s6 = .int .u8 (toR t s').1 ∧ LM w wx b a g t (takeS t 94 s).1 (toR t s').2 f')
      case first =>
        go_wp2_with fail
        · have hq : secS t (memR t s').2 = true := by assumption
          have e : Hid (_ = _) := show toR t s' = memR t (tkS t (memR t s').2).2 from if_pos hq
          refine (rtake_any b t _ _ h2).mono ?_
          rintro e1 w3 ⟨rfl, h3, k3⟩
          go_wp2_with fail
          refine (rmember_any b t _ _ h3).mono ?_
          rintro e1 w4 ⟨rfl, h4, k4⟩
          go_wp2_with fail
          go_meet
          rw [e.out]
          exact ⟨rfl, m2.scan h4 (k3.trans k4) hab hgb⟩
        · have hq : secS t (memR t s').2 = false := by assumption
          have e : Hid (_ = _) := show toR t s' = memR t s' from if_neg (by rw [hq]; decide)
          go_meet
          rw [e.out]
          exact ⟨rfl, m2⟩
      case rest =>
        obtain ⟨rfl, m3⟩ := hcut
        clear m2 k2 h2 c2 m hfit2
        go_upto_if 53 with fail
        have r1 := m3.rr.c1
        have r2 := m3.rr.f 1
        go_cut [] (fun wx => LM w wx b a g t (takeS t 94 s).1 (itemR t s' f').1 f')
        case first =>
          go_wp2_with fail
          · have hq : (toR t s').1 < (memR t s').1 := by assumption
            have e : Hid ((itemR t s' f').1 = markS (toR t s').2) := if_pos hq
            go_meet
            rw [e.out]
            exact ⟨m3.rr.mark, Blk.other m3.part _ _ hab, Blk.other m3.ins _ _ hgb, m3.kept.setCell (by simp) _⟩
          · have hq : ¬ (toR t s').1 < (memR t s').1 := by omega
            have e : Hid ((itemR t s' f').1 = (toR t s').2) := if_neg hq
            go_meet
            rw [e.out]
            exact m3
        case rest =>
          have m4 := hcut
          clear hcut m3 r1 r2
          have bd1 := memR_bd t s'
          have bd2 := toR_bd t s'
          go_wp2_with fail
          go_loopw [7] (fun c wr => ∃ k : Int, c = .int .i64 k ∧ (memR t s').1 ≤ k ∧ (k ≤ (toR t s').1 + 1 ∨ k = (memR t s').1) ∧ LM w wr b a g t (takeS t 94 s).1 (itemR t s' f').1 (fillB f' (memR t s').1 (k - 1)))
            (fun c _ => ((toR t s').1 + 1 - intOf c).toNat)
          case atStart =>
            refine ⟨_, rfl, Int.le_refl _, Or.inr rfl, ?_⟩
            have e : fillB f' (memR t s').1 ((memR t s').1 - 1) = f' := by
              funext i
              unfold fillB
              rw [decide_eq_false (by omega), Bool.or_false]
            rw [e]
            exact m4
          case round =>
            obtain ⟨k, rfl, hk1, hk2, m5⟩ := hrel
            have d1 := m5.c1
            obtain ⟨n, rfl⟩ := Int.eq_ofNat_of_zero_le (show 0 ≤ k by omega)
            by_cases hle : (n : Int) ≤ (toR t s').1
            · have hn : n < 256 := by omega
              have d2 : wr.cell? ⟨g, n, none⟩ = some (.bool (fillB f' (memR t s').1 ((n : Int) - 1) n)) := by rw [m5.ins.cell, boolCells_get _ hn]
              have d3 := m5.ins.frozen n
              have m6 := m5.set (f' := fillB f' (memR t s').1 (((n + 1 : Nat) : Int) - 1)) hgb hag n (fun j hj => by
                unfold fillB
                by_cases hjn : j = n
                · subst hjn
                  rw [if_pos rfl, decide_eq_true (by omega), Bool.or_true]
                · rw [if_neg hjn]
                  congr 1
                  apply decide_eq_decide.2
                  omega)
              have m6 : Hid (LM _ _ _ _ _ _ _ _ _) := m6
              go_wp2
              refine ⟨⟨((n + 1 : Nat) : Int), by go_num, by omega, by omega, m6.out⟩, ?_⟩
              simp only [intOf]
              omega
            · have e : fillB f' (memR t s').1 ((n : Int) - 1) = (itemR t s' f').2 := by
                show _ = fillB f' (memR t s').1 (toR t s').1
                funext i
                unfold fillB
                congr 1
                apply decide_eq_decide.2
                omega
              rw [e] at m5
              clear e
              go_wp2_with fail
              refine (rnext_any b 93 t _ _ m5.rr (by omega) (by omega)).mono ?_
              rintro e1 w7 ⟨rfl, h7, k7⟩
              have m7 := m5.scan h7 k7 hab hgb
              have hlw7 := leftW_eq h7
              have hlw7 : Hid (_ = _) := hlw7
              go_wp2
              refine ⟨⟨_, _, _, rfl, m7, ?_⟩, by rw [hlw7.out, hlw.out]; exact hdown.out⟩
              cases hcl : (takeS t 93 (itemR t s' f').1).1 with
              | false => exact Or.inl ⟨rfl, hcO.out hcl⟩
              | true => exact Or.inr ⟨rfl, hcE.out hcl⟩

end Go.Proofs.Ytgifhgnccmnbiaa

set_option linter.unusedVariables false
set_option linter.unusedSimpArgs false
namespace Go.Proofs.Ytgifhgnccmnbiaa
open Go.RowKit Go.IntWalk

/-- In the midst of a repeat's bounds. -/
structure BM (w0 w : World) (b a : Nat) (t : ByteArray) (kv : Value) (s : RS) (least most : Int) : Prop where
  rr : RR w b t s
  part : Blk w a #[.int .i64 6, .slice none 0 0, .bool false, kv, .int .i64 least, .int .i64 most] 160
  kept : Kept [b, a] w0 w
section
variable {w0 w w' : World} {b a : Nat} {t : ByteArray} {kv : Value} {s s' : RS} {l m : Int}
theorem BM.scan (h : BM w0 w b a t kv s l m) (r : RR w' b t s') (k : Kept [b] w w') (ha : a ≠ b) : BM w0 w' b a t kv s' l m :=
  ⟨r, h.part.kept k (by simpa using ha), h.kept.trans (k.mono (by simp))⟩
theorem BM.least (h : BM w0 w b a t kv s l m) (ha : a ≠ b) (x : Int) : BM w0 (w.setCell ⟨a, 4, none⟩ (.int .i64 x)) b a t kv s x m :=
  ⟨⟨Blk.other h.rr.blk _ _ (Ne.symm ha), h.rr.fits, h.rr.small⟩, h.part.set 4 _, h.kept.setCell (by simp) _⟩
theorem BM.most (h : BM w0 w b a t kv s l m) (ha : a ≠ b) (x : Int) : BM w0 (w.setCell ⟨a, 5, none⟩ (.int .i64 x)) b a t kv s l x :=
  ⟨⟨Blk.other h.rr.blk _ _ (Ne.symm ha), h.rr.fits, h.rr.small⟩, h.part.set 5 _, h.kept.setCell (by simp) _⟩
theorem BM.mark (h : BM w0 w b a t kv s l m) (ha : a ≠ b) : BM w0 (w.setCell ⟨b, 1, none⟩ (.bool true)) b a t kv (markS s) l m :=
  ⟨h.rr.mark, Blk.other h.part _ _ ha, h.kept.setCell (by simp) _⟩
theorem BM.drewN (h : BM w0 w b a t kv s l m) (n : Nat) : BM w0 (w.drewN n) b a t kv s l m := ⟨⟨h.rr.blk, h.rr.fits, h.rr.small⟩, h.part, h.kept.drewN n⟩
theorem BM.c4 (h : BM w0 w b a t kv s l m) : w.cell? ⟨a, 4, none⟩ = some (.int .i64 l) := by rw [h.part.cell]; rfl
theorem BM.c5 (h : BM w0 w b a t kv s l m) : w.cell? ⟨a, 5, none⟩ = some (.int .i64 m) := by rw [h.part.cell]; rfl
end

theorem bndMost_end {t : ByteArray} {s : RS} (h1 : (takeS t 44 (tkS t s).2).1 = true) (h2 : (takeS t 125 (takeS t 44 (tkS t s).2).2).1 = true) :
    bndMost t s = (-1, takeS t 125 (takeS t 44 (tkS t s).2).2) := by unfold bndMost; simp only []; rw [if_pos ⟨h1, h2⟩]
theorem bndMost_two {t : ByteArray} {s : RS} (h1 : (takeS t 44 (tkS t s).2).1 = true) (h2 : (takeS t 125 (takeS t 44 (tkS t s).2).2).1 = false) :
    bndMost t s = (let n := tkS t (takeS t 125 (takeS t 44 (tkS t s).2).2).2
      let e := takeS t 125 n.2
      (n.1 - 48, (e.1, if n.1 < 48 ∨ 57 < n.1 ∨ n.1 - 48 < (tkS t s).1 - 48 then markS e.2 else e.2))) := by
  unfold bndMost; simp only []; rw [if_neg (by rw [h2]; simp), if_pos h1]
theorem bndMost_one {t : ByteArray} {s : RS} (h1 : (takeS t 44 (tkS t s).2).1 = false) : bndMost t s = ((tkS t s).1 - 48, takeS t 125 (takeS t 44 (tkS t s).2).2) := by
  unfold bndMost; simp only []; rw [if_neg (by rw [h1]; simp), if_neg (by rw [h1]; simp)]

set_option maxHeartbeats 4000000 in
set_option maxRecDepth 100000 in
theorem rbounds_any (b a : Nat) (t : ByteArray) (kv : Value) (s : RS) (w : World) (h : RR w b t s)
    (ha : Blk w a #[.int .i64 6, .slice none 0 0, .bool false, kv, .int .i64 0, .int .i64 (-1)] 160) (hab : a ≠ b) :
    Calls Try.prog 130 #[.pointer (some ⟨b, 0, none⟩), .pointer (some ⟨a, 0, none⟩)] w fun e w' => e = .returned (.tuple #[]) ∧
      BM w w' b a t kv (bndR t s).2 (bndR t s).1.1 (bndR t s).1.2 := by
  have bd1 := tk_bd t s
  have m0 : BM w w b a t kv s 0 (-1) := ⟨h, ha, Kept.refl _ _⟩
  clear ha
  go_enter Try.func130, Try.ntmps130
  go_wp2_with fail
  refine (rtake_any b t s _ h).mono ?_
  rintro e w1 ⟨rfl, h1, k1⟩
  have m1 := m0.scan h1 k1 hab
  have q1 := m1.c4
  have q2 := m1.c5
  have q3 := m1.part.frozen 4
  have q4 := m1.part.frozen 5
  have m2 := (m1.least hab ((tkS t s).1 - 48)).most hab ((tkS t s).1 - 48)
  clear h m0 h1 k1
  go_wp2_with fail
  refine (rnext_any b 44 t _ _ m2.rr (by omega) (by omega)).mono ?_
  rintro e w3 ⟨rfl, h3, k3⟩
  have m3 := m2.scan h3 k3 hab
  go_wp2_with fail
  refine (rnext_any b 125 t _ _ m3.rr (by omega) (by omega)).mono ?_
  rintro e w4 ⟨rfl, h4, k4⟩
  have m4 := m3.scan h4 k4 hab
  clear m1 m2 m3 h3 h4 k3 k4 q1 q2 q3 q4
  have q3 := m4.part.frozen 4
  have q4 := m4.part.frozen 5
  have q1 := m4.c4
  have q2 := m4.c5
  go_upto_region 5 with fail
  go_cut [5, 6, 30] (fun s5 s6 s30 wx => s5 = .bool (takeS t 44 (tkS t s).2).1 ∧ s6 = .bool (takeS t 125 (takeS t 44 (tkS t s).2).2).1 ∧ s30 = .bool ((takeS t 44 (tkS t s).2).1 && (takeS t 125 (takeS t 44 (tkS t s).2).2).1) ∧ wx = w4)
  case first =>
    cases hc : (takeS t 44 (tkS t s).2).1 with
    | false =>
      go_wp2
      go_meet
      exact ⟨by rw [hc], rfl, by rw [hc]; rfl, rfl⟩
    | true =>
      go_wp2
      go_meet
      exact ⟨by rw [hc], rfl, by rw [hc]; rfl, rfl⟩
  case rest =>
    obtain ⟨rfl, rfl, rfl, rfl⟩ := hcut
    go_upto_if 30 with fail
    go_cut [5, 6, 7] (fun s5 s6 s7 wx => s5 = .bool (takeS t 44 (tkS t s).2).1 ∧ s6 = .bool (bndMost t s).2.1 ∧ BM w wx b a t kv (bndMost t s).2.2 ((tkS t s).1 - 48) (bndMost t s).1)
    case first =>
      go_wp2_with fail
      · have hcd : (takeS t 44 (tkS t s).2).1 = true ∧ (takeS t 125 (takeS t 44 (tkS t s).2).2).1 = true := by assumption
        have e : Hid (_ = _) := bndMost_end hcd.1 hcd.2
        have m5 := m4.most hab (-1)
        go_meet
        rw [e.out]
        exact ⟨rfl, by rw [hcd.2], m5⟩
      · have hc : (takeS t 44 (tkS t s).2).1 = true := by assumption
        have hd : (takeS t 125 (takeS t 44 (tkS t s).2).2).1 = false := by
          have hor : (takeS t 44 (tkS t s).2).1 = false ∨ (takeS t 125 (takeS t 44 (tkS t s).2).2).1 = false := by assumption
          rcases hor with hx | hx
          · rw [hc] at hx; cases hx
          · exact hx
        have e : Hid (_ = _) := bndMost_two hc hd
        have bdn := tk_bd t (takeS t 125 (takeS t 44 (tkS t s).2).2).2
        refine (rtake_any b t _ _ m4.rr).mono ?_
        rintro e5 w5 ⟨rfl, h5, k5⟩
        have m5 := m4.scan h5 k5 hab
        have g1 := m5.c5
        have g2 := m5.part.frozen 5
        have m6 := m5.most hab ((tkS t (takeS t 125 (takeS t 44 (tkS t s).2).2).2).1 - 48)
        go_wp2_with fail
        refine (rnext_any b 125 t _ _ m6.rr (by omega) (by omega)).mono ?_
        rintro e7 w7 ⟨rfl, h7, k7⟩
        have m7 := m6.scan h7 k7 hab
        clear m4 m5 m6 g1 g2 q1 q2 q3 q4
        have g1 := m7.c5
        have g2 := m7.c4
        have g3 := m7.rr.c1
        have g4 := m7.rr.f 1
        have mk := fun n => (m7.drewN n).mark hab
        generalize hn : (tkS t (takeS t 125 (takeS t 44 (tkS t s).2).2).2) = n at *
        have hn : Hid (_ = _) := hn
        have hc : Hid (_ = _) := hc
        go_upto_region 11 with fail
        go_cut [61] (fun s61 wx => s61 = .bool (decide (n.1 < 48) || decide (57 < n.1) || decide (n.1 - 48 < (tkS t s).1 - 48)) ∧ ∃ k, wx = w7.drewN k)
        case first =>
          clear m7 mk g3 g4 k7 h7 h5 e hn
          by_cases l1 : n.1 < 48
          · have d1 : decide (n.1 < 48) = true := by simpa using l1
            go_quiet (fail)
            try go_wp2_with fail
            go_meet
            exact ⟨by simp [l1], _, rfl⟩
          have d1 : decide (n.1 < 48) = false := by simpa using l1
          by_cases l2 : 57 < n.1
          · have d2 : decide (57 < n.1) = true := by simpa using l2
            go_quiet (fail)
            try go_wp2_with fail
            go_meet
            exact ⟨by simp [l2], _, rfl⟩
          have d2 : decide (57 < n.1) = false := by simpa using l2
          go_quiet (fail)
          try go_wp2_with fail
          go_meet
          exact ⟨by rw [d1, d2, Bool.false_or, Bool.false_or]; congr 1; apply decide_eq_decide.2; omega, _, rfl⟩
        case rest =>
          obtain ⟨rfl, k, rfl⟩ := hcut
          have g3 : (w7.drewN k).cell? ⟨b, 1, none⟩ = some (.bool (takeS t 125 n.2).2.2) := g3
          have g4 : (w7.drewN k).frozen? ⟨b, 1, none⟩ = false := g4
          go_wp2_with fail
          · go_meet
            rw [e.out]
            simp only []
            rw [if_pos (by omega)]
            exact ⟨by rw [hc.out], by first | rfl | trivial, mk _⟩
          · go_meet
            rw [e.out]
            simp only []
            rw [if_neg (by omega)]
            exact ⟨by rw [hc.out], by first | rfl | trivial, m7.drewN _⟩
      · have hc : (takeS t 44 (tkS t s).2).1 = false := by assumption
        have e : Hid (_ = _) := bndMost_one hc
        go_meet
        rw [e.out]
        exact ⟨rfl, rfl, m4⟩
    case rest =>
      obtain ⟨rfl, rfl, m5⟩ := hcut
      have g3 := m5.rr.c1
      have g4 := m5.rr.f 1
      have mk := m5.mark hab
      by_cases l1 : (tkS t s).1 < 48
      · have e : Hid ((bndR t s).2 = markS (bndMost t s).2.2) := if_pos (Or.inl l1)
        go_wp2
        go_end0
        refine ⟨rfl, ?_⟩
        rw [e.out]
        exact mk
      by_cases l2 : 57 < (tkS t s).1
      · have e : Hid ((bndR t s).2 = markS (bndMost t s).2.2) := if_pos (Or.inr (Or.inl l2))
        go_wp2
        go_end0
        refine ⟨rfl, ?_⟩
        rw [e.out]
        exact mk
      cases hcl : (bndMost t s).2.1 with
      | false =>
        have e : Hid ((bndR t s).2 = markS (bndMost t s).2.2) := if_pos (Or.inr (Or.inr hcl))
        go_wp2
        go_end0
        refine ⟨rfl, ?_⟩
        rw [e.out]
        exact mk
      | true =>
        have e : Hid ((bndR t s).2 = (bndMost t s).2.2) := if_neg (by rw [hcl]; simp; omega)
        go_wp2
        go_end0
        refine ⟨rfl, ?_⟩
        rw [e.out]
        exact m5

end Go.Proofs.Ytgifhgnccmnbiaa

set_option linter.unusedVariables false
set_option linter.unusedSimpArgs false
namespace Go.Proofs.Ytgifhgnccmnbiaa
open Go.RowKit Go.IntWalk

theorem own_base {w : World} {base base' : Nat} {e : TypeId} {size : Nat} {v : Value} {n : Nat} {xs : List Value} (h : w.ownsRow base e size v n xs) (hb : base' ≤ base) : w.ownsRow base' e size v n xs := by
  refine ⟨h.1, ?_⟩
  rcases h.2 with h2 | ⟨g, c, u, h3, h4, r⟩
  · exact Or.inl h2
  · exact Or.inr ⟨g, c, u, h3, Nat.le_trans hb h4, r⟩

section
variable {P : Program} (w : World)
/-- append to a row of the call's own, AND WHERE THE RESULT LIES: in the old block, or in a new one. -/
theorem run_append_placed (base : Nat) (t ty e : TypeId) (i : TypeInfo) (z : Value) (size bytes : Nat) (ht : P.underlying t = some (.slice e)) (hi : P.info? e = some i) (hz : i.zero = some z)
    (hsize : i.size = size) (hby : i.bytes = bytes) (hzs : z.cells.size = size) (hsz : 0 < size)
    (v : Value) (n : Nat) (xs : List Value) (hown : w.ownsRow base e size v n xs)
    (a : Addr) (m c : Nat) (news : List Value) (hl : news.length = m * size) (hnews : ∀ j u, news[j]? = some u → w.cell? (a.add j) = some u) (h1 : ∀ u ∈ news, u.oneCell' = true)
    (h63 : n + m ≤ maxLen) (hbytes : (n + m) * bytes ≤ 140737488355328) (hbase : base ≤ w.heap.size) :
    ∃ v' w', (Builtin.append_ #[t, t] ty #[v, .slice (some a) m c]).run P w = .ok v' w' ∧ w'.ownsRow base e size v' (n + m) (xs ++ news) ∧ w.grownBy w' v.ownBlock ∧
      (v'.ownBlock = v.ownBlock ∨ ∀ g, v'.ownBlock = some g → w.heap.size ≤ g) := by
  rcases hown.2 with ⟨rfl, rfl⟩ | ⟨g, cap, cur, rfl, hbg, hg, hnc, hcm, hcs, htake⟩
  · have hx : xs = [] := List.eq_nil_of_length_eq_zero (by simpa using hown.1)
    subst hx
    obtain ⟨v', w', r, o, gr, _⟩ := run_append_own (P := P) w w.heap.size t ty e i z size bytes ht hi hz hsize hby hzs hsz (.slice none 0 0) 0 [] (World.ownsRow_nil w _ e size) a m c news hl hnews h1 h63 hbytes (Nat.le_refl _)
    exact ⟨v', w', r, own_base o hbase, gr, Or.inr (fun g hg => (o.lt g hg).1)⟩
  · by_cases hroom : n + m ≤ cap
    · obtain ⟨v', w', r, o, gr, _⟩ := run_append_own (P := P) w base t ty e i z size bytes ht hi hz hsize hby hzs hsz _ n xs hown a m c news hl hnews h1 h63 hbytes hbase
      subst hsize
      have hfit : n * i.size + news.length ≤ cur.size := by rw [hl, hcs, ← Nat.add_mul]; exact Nat.mul_le_mul_right _ hroom
      have hr := run_append_room (P := P) w t ty e i ht hi g n cap cur hg a m c news hl hnews h1 hroom hfit
      refine ⟨v', w', r, o, gr, Or.inl ?_⟩
      rw [hr] at r
      simp only [Result.ok.injEq] at r
      rw [← r.1]; rfl
    · have holds : ∀ j u, xs[j]? = some u → w.cell? ((⟨g, 0, none⟩ : Addr).add j) = some u := hown.cells (g := g) rfl
      obtain ⟨v', w', r, o, gr⟩ := run_append_arg_grows (P := P) w t ty e i z size bytes ht hi hz hsize hby hzs hsz ⟨g, 0, none⟩ n cap xs hown.1 holds a m c news hl hnews (by omega) h63 hbytes
      exact ⟨v', w', r, own_base o hbase, ⟨gr.os, gr.tape, gr.output, gr.size, fun k hk _ => gr.block k hk (by simp)⟩, Or.inr (fun g hg => (o.lt g hg).1)⟩
end

theorem wpList_append_placed {P : Program} {w : World} {ops : Array Oper} {rest : List Oper} {o : Oper} {a : Act} {Q : Exit → Act → World → Prop} (hgd : o.guard = none) (s x : Operand) (t : TypeId)
    (ho : o.op = .call { callee := .builtin .append, args := #[s, x], argTypes := #[t, t] })
    (base : Nat) (e : TypeId) (i : TypeInfo) (z : Value) (size bytes : Nat) (ht : P.underlying t = some (.slice e)) (hi : P.info? e = some i) (hz : i.zero = some z)
    (hsize : i.size = size) (hby : i.bytes = bytes) (hzs : z.cells.size = size) (hsz : 0 < size)
    (v : Value) (n : Nat) (xs : List Value) (hs : a.eval s = v) (hown : w.ownsRow base e size v n xs)
    (ad : Addr) (m c : Nat) (news : List Value) (hx : a.eval x = .slice (some ad) m c) (hl : news.length = m * size) (hnews : ∀ j u, news[j]? = some u → w.cell? (ad.add j) = some u) (h1 : ∀ u ∈ news, u.oneCell' = true)
    (h63 : n + m ≤ maxLen) (hbytes : (n + m) * bytes ≤ 140737488355328) (hbase : base ≤ w.heap.size)
    (h : ∀ v' w', w'.ownsRow base e size v' (n + m) (xs ++ news) → w.grownBy w' v.ownBlock → (v'.ownBlock = v.ownBlock ∨ ∀ g, v'.ownBlock = some g → w.heap.size ≤ g) → wpList P ops Q rest (a.put o.dst v') w') : wpList P ops Q (o :: rest) a w := by
  refine wpList_plain hgd fun K hK => ?_
  obtain ⟨v', w', hrun, r1, r2, r3⟩ := run_append_placed (P := P) w base t o.type e i z size bytes ht hi hz hsize hby hzs hsz v n xs hown ad m c news hl hnews h1 h63 hbytes hbase
  unfold Oper.wp
  simp [execOp, ho, resolve, invoke, builtin, hs, hx, hrun, Result.andThen]
  exact hK _ _ (h v' w' r1 r2 r3)

theorem getD_app {l more : List Nat} {k : Nat} (h : k < l.length) : (l ++ more).getD k 0 = l.getD k 0 := by
  simp [List.getD, List.getElem?_append_left h]
def ptrTo (adrs : List Nat) (k : Nat) : Value := .pointer (some ⟨adrs.getD k 0, 0, none⟩)

/-- A part, at block a; the blocks that it takes are among F. -/
structure PartOk (w : World) (F : Nat → Prop) (adrs : List Nat) (p : PN) (a : Nat) (iv kv : IV) : Prop where
  blk : Blk w a #[.int .i64 p.kind, .slice iv.1 iv.2.1 iv.2.2, .bool p.neg, .slice kv.1 kv.2.1 kv.2.2, .int .i64 p.least, .int .i64 p.most] 160
  mine : F a
  ins : (p.kind ≤ 3 ∧ ∃ g, iv = (some ⟨g, 0, none⟩, 256, 256) ∧ F g ∧ Blk w g (boolCells p.ins) 4) ∨ (3 < p.kind ∧ iv = (none, 0, 0))
  kids : w.ownsRow 0 60 1 (ivV kv) p.kids.length (p.kids.map (ptrTo adrs))
  kidsF : ∀ g, (ivV kv).ownBlock = some g → F g

/-- The reader and the parts. -/
structure RM (w : World) (b : Nat) (t : ByteArray) (s : RS) (ps : List PN) (adrs : List Nat) (F : Nat → Prop) : Prop where
  rr : RR w b t s
  len : adrs.length = ps.length
  part : ∀ (i : Nat) (p : PN), ps[i]? = some p → (∀ k, k ∈ p.kids → k < i) ∧ ∃ iv kv, PartOk w F adrs p (adrs.getD i 0) iv kv
  old : ∀ k, F k → k < w.heap.size ∧ k ≠ b

section
variable {w w' : World} {b a : Nat} {t : ByteArray} {s s' : RS} {ps : List PN} {adrs : List Nat} {F F' : Nat → Prop} {p : PN} {iv kv : IV}

theorem PartOk.frame (h : PartOk w F adrs p a iv kv) (hf : ∀ k, F k → w'.heap[k]? = w.heap[k]?) : PartOk w' F adrs p a iv kv := by
  refine ⟨(hf a h.mine).trans h.blk, h.mine, ?_, ?_, h.kidsF⟩
  · rcases h.ins with ⟨h1, g, h2, h3, h4⟩ | h5
    · exact Or.inl ⟨h1, g, h2, h3, (hf g h3).trans h4⟩
    · exact Or.inr h5
  · refine ⟨h.kids.1, ?_⟩
    rcases h.kids.2 with h1 | ⟨g, cap, cur, h1, h2, h3, r⟩
    · exact Or.inl h1
    · exact Or.inr ⟨g, cap, cur, h1, h2, (hf g (h.kidsF g (by rw [h1]; rfl))).trans h3, r⟩

theorem PartOk.wider (h : PartOk w F adrs p a iv kv) (hf : ∀ k, F k → F' k) {more : List Nat} (hk : ∀ k, k ∈ p.kids → k < adrs.length) : PartOk w F' (adrs ++ more) p a iv kv := by
  refine ⟨h.blk, hf a h.mine, ?_, ?_, fun g hg => hf g (h.kidsF g hg)⟩
  · rcases h.ins with ⟨h1, g, h2, h3, h4⟩ | h5
    · exact Or.inl ⟨h1, g, h2, hf g h3, h4⟩
    · exact Or.inr h5
  · have e : p.kids.map (ptrTo (adrs ++ more)) = p.kids.map (ptrTo adrs) := by
      apply List.map_congr_left
      intro k hk'
      unfold ptrTo
      rw [getD_app (hk k hk')]
    rw [e]
    exact h.kids

theorem RM.frame (h : RM w b t s ps adrs F) (hf : ∀ k, F k → w'.heap[k]? = w.heap[k]?) (r : RR w' b t s') (hs : w.heap.size ≤ w'.heap.size) : RM w' b t s' ps adrs F :=
  ⟨r, h.len, fun i p hp => ⟨(h.part i p hp).1, by obtain ⟨iv, kv, hk⟩ := (h.part i p hp).2; exact ⟨iv, kv, hk.frame hf⟩⟩, fun k hk => ⟨Nat.lt_of_lt_of_le (h.old k hk).1 hs, (h.old k hk).2⟩⟩

theorem RM.scan (h : RM w b t s ps adrs F) (r : RR w' b t s') (k : Kept [b] w w') : RM w' b t s' ps adrs F :=
  h.frame (fun i hi => k.block i (h.old i hi).1 (by simpa using (h.old i hi).2)) r k.size

/-- One part more. -/
theorem RM.push (h : RM w b t s ps adrs F) (hF : ∀ k, F k → F' k) (hold : ∀ k, F' k → k < w.heap.size ∧ k ≠ b) (hk : ∀ k, k ∈ p.kids → k < ps.length) (hp : PartOk w F' adrs p a iv kv) :
    RM w b t s (ps ++ [p]) (adrs ++ [a]) F' := by
  refine ⟨h.rr, by simp [h.len], fun i q hq => ?_, hold⟩
  by_cases hi : i < ps.length
  · rw [List.getElem?_append_left hi] at hq
    obtain ⟨h1, iv, kv, h2⟩ := h.part i q hq
    refine ⟨h1, iv, kv, ?_⟩
    rw [getD_app (by rw [h.len]; exact hi)]
    exact h2.wider hF (fun k hk => by have := h1 k hk; rw [h.len]; omega)
  · have hi2 : i = ps.length := by
      have := (List.getElem?_eq_some_iff.1 hq).1
      simp at this; omega
    subst hi2
    rw [List.getElem?_append_right (Nat.le_refl _), Nat.sub_self] at hq
    simp at hq
    subst hq
    refine ⟨hk, iv, kv, ?_⟩
    have e : (adrs ++ [a]).getD ps.length 0 = a := by rw [← h.len]; simp [List.getD]
    rw [e]
    exact hp.wider (fun k hk => hk) (fun k hk' => by rw [h.len]; exact hk k hk')
end

/-- What a call leaves in memory: the parts, some more than before, in new blocks. -/
structure RMem (w w' : World) (b : Nat) (t : ByteArray) (adrs : List Nat) (F : Nat → Prop) (r : Nat × RP) (pv : Value) : Prop where
  mem : ∃ (more : List Nat) (F' : Nat → Prop), RM w' b t r.2.1 r.2.2 (adrs ++ more) F' ∧ (∀ k, F k → F' k) ∧ (∀ k, F' k → F k ∨ w.heap.size ≤ k) ∧ pv = ptrTo (adrs ++ more) r.1
  kept : Kept [b] w w'
  idx : r.1 < r.2.2.length

end Go.Proofs.Ytgifhgnccmnbiaa
