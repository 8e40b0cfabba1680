/- The machine as plain data, as the code keeps it: what there is at a line's beginning, what is enough at its end, and one table for the ways of all bytes. No Go in it. -/
import Derived.Test.YtgifhgnccmnbiabGreatDoorG06
import Derived.Test.YtgifhgnccmnbiabGreatDoorG01
set_option linter.unusedVariables false
set_option linter.unusedSimpArgs false
namespace Go.Proofs.YtgifhgnccmnbiabGreatDoor

def freshB : B64 := 4611686018427387904#64
theorem freshB_nat : ((freshB.toNat : Nat) : Int) = 4611686018427387904 := rfl

/-- The set behind some bytes. -/
def fromP (m : MP) (tk S : B64) : B64 := followQ m S 63 &&& tk
/-- From which states one of these is reached. -/
def intoQ (m : MP) (tk S : B64) : Nat → B64
  | 0 => 0#64
  | q + 1 => if m.next q &&& tk &&& S = 0#64 then intoQ m tk S q else intoQ m tk S q ||| (1#64 <<< q)
def intoP (m : MP) (tk S : B64) : B64 := intoQ m tk S 63
def enoughQ (m : MP) (free X : B64) : Nat → B64
  | 0 => X
  | q + 1 => enoughQ m free X q ||| intoP m free (enoughQ m free X q)
def enoughP (m : MP) (free : B64) : B64 := enoughQ m free (m.last ||| foundB) 60
def begQ (m : MP) : Nat → B64
  | 0 => startB ||| freshB
  | q + 1 => begQ m q ||| fromP m m.begins (begQ m q)
def begP (m : MP) : B64 := begQ m 60
/-- What is enough at a line's end. -/
def enP (m : MP) : B64 := if begP m &&& enoughP m (m.ends ||| m.begins) = 0#64 then enoughP m m.ends else enoughP m m.ends ||| freshB
/-- So far as the states below q. -/
def anyQ (m : MP) (q : Nat) : MP := { m with next := fun i => if i < q ∧ (m.last.getLsbD i = true ∨ i = 61) then (if i = 60 then m.next i ||| startB else m.next i) ||| foundB else if i = 60 then m.next i ||| startB else m.next i }
def takeQ (m : MP) (q : Nat) : MP := { m with takes := fun c => if c < q then m.takes c ||| (startB ||| foundB) else m.takes c }
/-- A match may begin and end within a line. -/
def anyP (m : MP) : MP := takeQ (anyQ m 63) 256
def begM (m : MP) : MP := { m with beg := begP m, en := enP m }
/-- What the code makes of the simple machine. -/
def finP (m : MP) : MP := if m.whole = true then begM m else anyP (begM m)
def setN (M : MP) (t : ByteArray) : Nat → B64
  | 0 => M.beg
  | q + 1 => fromP M (M.takes (if h : q < t.size then t[q].toNat else 0)) (setN M t q)
def matchesN (M : MP) (t : ByteArray) : Bool := !decide (setN M t t.size &&& M.en = 0#64)

section
variable {m m' : MP} (h : m'.next = m.next)
include h
theorem followQ_next (S : B64) : ∀ q, followQ m' S q = followQ m S q
  | 0 => rfl
  | q + 1 => by rw [followQ, followQ, followQ_next S q, h]
theorem fromP_next (tk S : B64) : fromP m' tk S = fromP m tk S := by unfold fromP; rw [followQ_next h]
theorem intoQ_next (tk S : B64) : ∀ q, intoQ m' tk S q = intoQ m tk S q
  | 0 => rfl
  | q + 1 => by rw [intoQ, intoQ, intoQ_next tk S q, h]
theorem intoP_next (tk S : B64) : intoP m' tk S = intoP m tk S := intoQ_next h tk S 63
theorem enoughQ_next (free X : B64) : ∀ q, enoughQ m' free X q = enoughQ m free X q
  | 0 => rfl
  | q + 1 => by rw [enoughQ, enoughQ, enoughQ_next free X q, intoP_next h]
theorem enoughP_next (hl : m'.last = m.last) (free : B64) : enoughP m' free = enoughP m free := by unfold enoughP; rw [hl, enoughQ_next h]
end

end Go.Proofs.YtgifhgnccmnbiabGreatDoor

set_option linter.unusedVariables false
set_option linter.unusedSimpArgs false
namespace Go.Proofs.YtgifhgnccmnbiabGreatDoor

/-- Lengths are cut short at one above 2 to the 40. -/
def capL (n : Nat) : Nat := if 1099511627777 < n then 1099511627777 else n
theorem capL_le (n : Nat) : capL n ≤ 1099511627777 := by unfold capL; split <;> omega
theorem capL_cases (n : Nat) : (n ≤ 1099511627777 ∧ capL n = n) ∨ (1099511627777 < n ∧ capL n = 1099511627777) := by
  unfold capL
  by_cases h : 1099511627777 < n
  · rw [if_pos h]; exact Or.inr ⟨h, rfl⟩
  · rw [if_neg h]; exact Or.inl ⟨by omega, rfl⟩
theorem capL_add (a b : Nat) : capL (capL a + capL b) = capL (a + b) := by
  have h1 := capL_cases a
  have h2 := capL_cases b
  have h3 := capL_cases (a + b)
  have h4 := capL_cases (capL a + capL b)
  omega
theorem capL_zero {n : Nat} : capL n = 0 ↔ n = 0 := by unfold capL; split <;> omega
theorem capL_small {n : Nat} (h : capL n ≤ 1099511627776) : capL n = n := by unfold capL at h ⊢; split at h <;> (split <;> omega)
theorem capL_of {n : Nat} (h : n ≤ 1099511627777) : capL n = n := by unfold capL; rw [if_neg (by omega)]

/-- What is told of a part of a text. -/
structure PT where
  len : Nat := 0
  nl : Nat := 0
  first : Nat := 0
  last : Nat := 0
deriving DecidableEq
def nls (t : List Nat) : Nat := (t.filter (· == 10)).length
def ptOf (t : List Nat) : PT := if t = [] then {} else { len := capL t.length, nl := capL (nls t), first := t.headD 0, last := t.getLastD 0 }
def joinP (a b : PT) : PT := if a.len = 0 then b else if b.len = 0 then a else { len := capL (a.len + b.len), nl := capL (a.nl + b.nl), first := a.first, last := b.last }
def byteP (c : Nat) : PT := { len := 1, nl := if c = 10 then 1 else 0, first := c, last := c }
theorem nls_app (a b : List Nat) : nls (a ++ b) = nls a + nls b := by simp [nls, List.filter_append]
theorem nls_le (t : List Nat) : nls t ≤ t.length := List.length_filter_le _ _
theorem ptOf_len (t : List Nat) : (ptOf t).len = capL t.length := by
  unfold ptOf; split
  · rename_i h; subst h; rfl
  · rfl
theorem ptOf_nl (t : List Nat) : (ptOf t).nl = capL (nls t) := by
  unfold ptOf; split
  · rename_i h; subst h; rfl
  · rfl
theorem ptOf_one (c : Nat) : ptOf [c] = byteP c := by
  unfold ptOf byteP nls
  rw [if_neg (by simp)]
  by_cases h : c = 10
  · subst h; rfl
  · simp [h, capL]
theorem join_ptOf (a b : List Nat) : joinP (ptOf a) (ptOf b) = ptOf (a ++ b) := by
  unfold joinP
  by_cases ha : a = []
  · subst ha; rw [if_pos (show (ptOf []).len = 0 from rfl)]; rfl
  · have h1 : (ptOf a).len ≠ 0 := by rw [ptOf_len, Ne, capL_zero]; intro h; exact ha (List.eq_nil_of_length_eq_zero h)
    rw [if_neg h1]
    by_cases hb : b = []
    · subst hb; rw [if_pos (show (ptOf []).len = 0 from rfl), List.append_nil]
    · have h2 : (ptOf b).len ≠ 0 := by rw [ptOf_len, Ne, capL_zero]; intro h; exact hb (List.eq_nil_of_length_eq_zero h)
      rw [if_neg h2, ptOf_len, ptOf_len, ptOf_nl, ptOf_nl, capL_add, capL_add]
      unfold ptOf
      rw [if_neg ha, if_neg hb, if_neg (by simp [ha])]
      simp only [PT.mk.injEq]
      refine ⟨by rw [List.length_append], by rw [nls_app], ?_, ?_⟩
      · cases a with
        | nil => exact absurd rfl ha
        | cons x l => rfl
      · cases b with
        | nil => exact absurd rfl hb
        | cons x l => rw [List.getLastD_eq_getLast?, List.getLastD_eq_getLast?, List.getLast?_append]; rw [List.getLast?_eq_some_getLast (by simp)]; rfl

/-- A rule as it is kept: its two symbols, and what is told of its text. -/
structure RU where
  l : Nat
  r : Nat
  pt : PT
def partAt (rs : List RU) (s : Nat) : PT := if s < 256 then byteP s else ((rs[s - 256]?).map RU.pt).getD {}
def ruleP (rs : List RU) (l r : Nat) : RU := { l := l, r := r, pt := joinP (partAt rs l) (partAt rs r) }

/-- What a symbol stands for, where the rules stand for these texts. -/
def symT (T : List (List Nat)) (s : Nat) : List Nat := if s < 256 then [s] else T.getD (s - 256) []
theorem symT_app {T U : List (List Nat)} {s : Nat} (h : s < 256 + T.length) : symT (T ++ U) s = symT T s := by
  unfold symT
  split
  · rfl
  · simp only [List.getD]
    rw [List.getElem?_append_left (by omega)]
theorem symT_new {T : List (List Nat)} {x : List Nat} : symT (T ++ [x]) (256 + T.length) = x := by
  unfold symT
  rw [if_neg (by omega), Nat.add_sub_cancel_left]
  simp [List.getD]
/-- The rules' parts are those of their texts. -/
structure Sound (rs : List RU) (T : List (List Nat)) : Prop where
  len : rs.length = T.length
  rule : ∀ i x, rs[i]? = some x → x.l < 256 + i ∧ x.r < 256 + i ∧ T.getD i [] = symT T x.l ++ symT T x.r ∧ x.pt = ptOf (T.getD i [])
  full : ∀ i, i < T.length → T.getD i [] ≠ []
theorem Sound.nil : Sound [] [] := ⟨rfl, fun i x h => by simp at h, fun i h => by simp at h⟩
theorem Sound.part {rs : List RU} {T : List (List Nat)} (h : Sound rs T) {s : Nat} (hs : s < 256 + rs.length) : partAt rs s = ptOf (symT T s) := by
  unfold partAt symT
  by_cases h1 : s < 256
  · rw [if_pos h1, if_pos h1, ptOf_one]
  · rw [if_neg h1, if_neg h1]
    obtain ⟨x, hx⟩ : ∃ x, rs[s - 256]? = some x := ⟨_, List.getElem?_eq_getElem (by omega)⟩
    rw [hx]
    exact (h.rule _ _ hx).2.2.2
theorem Sound.ne {rs : List RU} {T : List (List Nat)} (h : Sound rs T) {s : Nat} (hs : s < 256 + rs.length) : symT T s ≠ [] := by
  unfold symT
  split
  · simp
  · exact h.full _ (by rw [← h.len]; omega)
theorem Sound.push {rs : List RU} {T : List (List Nat)} (h : Sound rs T) {l r : Nat} (hl : l < 256 + rs.length) (hr : r < 256 + rs.length) :
    Sound (rs ++ [ruleP rs l r]) (T ++ [symT T l ++ symT T r]) := by
  have hlen := h.len
  refine ⟨by simp [hlen], fun i x hx => ?_, fun i hi => ?_⟩
  · by_cases hi : i < rs.length
    · rw [List.getElem?_append_left hi] at hx
      obtain ⟨a, b, c, d⟩ := h.rule i x hx
      have e : (T ++ [symT T l ++ symT T r]).getD i [] = T.getD i [] := by simp only [List.getD]; rw [List.getElem?_append_left (by omega)]
      rw [e, symT_app (by omega), symT_app (by omega)]
      exact ⟨a, b, c, d⟩
    · have hi2 : i = rs.length := by
        have := (List.getElem?_eq_some_iff.1 hx).1
        simp at this; omega
      subst hi2
      rw [List.getElem?_append_right (Nat.le_refl _), Nat.sub_self] at hx
      simp at hx
      subst hx
      have e : (T ++ [symT T l ++ symT T r]).getD rs.length [] = symT T l ++ symT T r := by rw [hlen]; simp [List.getD]
      rw [e]
      simp only [ruleP]
      rw [symT_app (by omega), symT_app (by omega)]
      exact ⟨hl, hr, rfl, by rw [h.part hl, h.part hr, join_ptOf]⟩
  · simp at hi
    by_cases hi2 : i < T.length
    · have e : (T ++ [symT T l ++ symT T r]).getD i [] = T.getD i [] := by simp only [List.getD]; rw [List.getElem?_append_left hi2]
      rw [e]; exact h.full i hi2
    · have : i = T.length := by omega
      subst this
      have e : (T ++ [symT T l ++ symT T r]).getD T.length [] = symT T l ++ symT T r := by simp [List.getD]
      rw [e]
      simp [h.ne hl]

/-- The document's: bytes, newlines, bytes behind the last newline. -/
structure PI where
  long : Nat := 0
  ends : Nat := 0
  tail : Nat := 0
def tailL (t : List Nat) : Nat := (t.reverse.takeWhile (· != 10)).length
theorem takeWhile_all {l : List Nat} (h : nls l = 0) : l.takeWhile (· != 10) = l := by
  induction l with
  | nil => rfl
  | cons x l ih =>
    unfold nls at h ih
    by_cases hx : x = 10
    · subst hx; simp at h
    · rw [List.takeWhile_cons_of_pos (by simpa using hx), ih (by simpa [hx] using h)]
theorem nls_rev (l : List Nat) : nls l.reverse = nls l := by unfold nls; rw [List.filter_reverse, List.length_reverse]
theorem takeWhile_app_stop {l m : List Nat} (h : nls l ≠ 0) : (l ++ m).takeWhile (· != 10) = l.takeWhile (· != 10) := by
  induction l with
  | nil => exact absurd rfl h
  | cons x l ih =>
    by_cases hx : x = 10
    · subst hx; simp
    · rw [List.cons_append, List.takeWhile_cons_of_pos (by simpa using hx), List.takeWhile_cons_of_pos (by simpa using hx), ih (by unfold nls at h ⊢; simpa [hx] using h)]
theorem tailL_app (a b : List Nat) : tailL (a ++ b) = if nls b = 0 then tailL a + b.length else tailL b := by
  unfold tailL
  rw [List.reverse_append]
  split
  · rename_i h
    rw [List.takeWhile_append_of_pos (by
      intro x hx
      have : b.reverse.takeWhile (· != 10) = b.reverse := takeWhile_all (by rw [nls_rev]; exact h)
      rw [← this] at hx
      have h2 := List.all_takeWhile (p := (· != 10)) (l := b.reverse)
      rw [List.all_eq_true] at h2
      exact h2 x hx)]
    simp; omega
  · rename_i h
    rw [takeWhile_app_stop (by rw [nls_rev]; exact h)]
def piOf (t : List Nat) : PI := { long := capL t.length, ends := capL (nls t), tail := capL (tailL t) }
def capS (a b : Nat) : Nat := if 1099511627776 < a + b then 1099511627777 else a + b
theorem capS_eq (a b : Nat) : capS a b = capL (a + b) := by
  have h1 := capL_cases (a + b)
  unfold capS
  by_cases h : 1099511627776 < a + b
  · rw [if_pos h]; omega
  · rw [if_neg h]; omega
def joinedP (a b : PI) : PI := { long := capS a.long b.long, ends := capS a.ends b.ends, tail := if b.ends = 0 then capS a.tail b.long else b.tail }
theorem joined_piOf (a b : List Nat) : joinedP (piOf a) (piOf b) = piOf (a ++ b) := by
  unfold joinedP piOf
  simp only [PI.mk.injEq]
  rw [capS_eq, capS_eq, capS_eq, capL_add, capL_add, capL_add, List.length_append, nls_app, tailL_app]
  refine ⟨rfl, rfl, ?_⟩
  by_cases h : nls b = 0
  · rw [if_pos (capL_zero.2 h), if_pos h]
  · rw [if_neg (fun hc => h (capL_zero.1 hc)), if_neg h]
def sizeP (ps : List PI) (s : Nat) : PI := if s = 10 then { long := 1, ends := 1 } else if s < 256 then { long := 1, tail := 1 } else ps.getD (s - 256) {}
theorem size_one (c : Nat) : (if c = 10 then ({ long := 1, ends := 1 } : PI) else { long := 1, tail := 1 }) = piOf [c] := by
  unfold piOf
  by_cases h : c = 10
  · subst h; rfl
  · rw [if_neg h]; simp [nls, tailL, h, capL]

/-- How many lines. -/
def linesS (p : PT) : Nat := if 0 < p.len ∧ p.last ≠ 10 then p.nl + 1 else p.nl
def linesR (p : PI) : Nat := if 0 < p.tail then p.ends + 1 else p.ends
end Go.Proofs.YtgifhgnccmnbiabGreatDoor

set_option linter.unusedVariables false
set_option linter.unusedSimpArgs false
namespace Go.Proofs.YtgifhgnccmnbiabGreatDoor

/-- The lines of at, which is a line's beginning, and what is behind it. -/
def linesA : List Nat → List Nat → List (List Nat)
  | at', [] => if at' = [] then [] else [at']
  | at', c :: r => if c = 10 then at' :: linesA [] r else linesA (at' ++ [c]) r
def linesL (X : List Nat) : List (List Nat) := linesA [] X
theorem linesA_nl (a r : List Nat) : linesA a (10 :: r) = a :: linesA [] r := by rw [linesA, if_pos rfl]
theorem linesA_c {c : Nat} (h : c ≠ 10) (a r : List Nat) : linesA a (c :: r) = linesA (a ++ [c]) r := by rw [linesA, if_neg h]
theorem linesA_len : ∀ (X a : List Nat), (linesA a X).length = nls X + if X = [] then (if a = [] then 0 else 1) else if X.getLastD 0 ≠ 10 then 1 else 0
  | [], a => by
    by_cases h : a = []
    · subst h; rfl
    · rw [linesA, if_neg h, if_pos rfl, if_neg h]; rfl
  | c :: r, a => by
    rw [linesA]
    by_cases hc : c = 10
    · rw [if_pos hc, List.length_cons, linesA_len r []]
      subst hc
      cases r with
      | nil => rfl
      | cons d r =>
        have : nls (10 :: d :: r) = nls (d :: r) + 1 := rfl
        rw [this, if_neg (List.cons_ne_nil _ _), if_neg (List.cons_ne_nil _ _)]
        simp only [List.getLastD_cons]
        omega
    · rw [if_neg hc, linesA_len r (a ++ [c])]
      have hn : nls (c :: r) = nls r := by
        unfold nls; rw [List.filter_cons_of_neg (by simpa using hc)]
      rw [hn]
      cases r with
      | nil => simp [hc]
      | cons d r =>
        rw [if_neg (List.cons_ne_nil _ _), if_neg (List.cons_ne_nil _ _)]
        simp only [List.getLastD_cons]
theorem linesL_len {X : List Nat} (h : X.length ≤ 1099511627776) : (linesL X).length = linesS (ptOf X) := by
  unfold linesL
  rw [linesA_len]
  unfold linesS
  have hn := nls_le X
  by_cases hx : X = []
  · subst hx; rfl
  · have hpos : 0 < X.length := List.length_pos_iff.2 hx
    rw [if_neg hx, ptOf_len, ptOf_nl, capL_of (by omega), capL_of (by omega)]
    have hl : (ptOf X).last = X.getLastD 0 := by unfold ptOf; rw [if_neg hx]
    rw [hl]
    by_cases h10 : X.getLastD 0 = 10
    · rw [if_neg (fun hc => hc h10), if_neg (fun hc => hc.2 h10)]; rfl
    · rw [if_pos h10, if_pos ⟨hpos, h10⟩]
end Go.Proofs.YtgifhgnccmnbiabGreatDoor

set_option linter.unusedVariables false
set_option linter.unusedSimpArgs false
namespace Go.Proofs.YtgifhgnccmnbiabGreatDoor

/-- Behind u, which has no newline: the lines that have ended, and the line at hand. -/
def crA : List Nat → List Nat → List (List Nat) × List Nat
  | u, [] => ([], u)
  | u, c :: r => if c = 10 then (u :: (crA [] r).1, (crA [] r).2) else crA (u ++ [c]) r
theorem crA_nil (u : List Nat) : crA u [] = ([], u) := rfl
theorem crA_nl (u r : List Nat) : crA u (10 :: r) = (u :: (crA [] r).1, (crA [] r).2) := by rw [crA, if_pos rfl]
theorem crA_c {c : Nat} (h : c ≠ 10) (u r : List Nat) : crA u (c :: r) = crA (u ++ [c]) r := by rw [crA, if_neg h]
theorem crA_app : ∀ (X u Y : List Nat), crA u (X ++ Y) = ((crA u X).1 ++ (crA (crA u X).2 Y).1, (crA (crA u X).2 Y).2)
  | [], u, Y => rfl
  | c :: X, u, Y => by
    rw [List.cons_append]
    by_cases h : c = 10
    · subst h; rw [crA_nl, crA_nl, crA_app X [] Y]; rfl
    · rw [crA_c h, crA_c h, crA_app X (u ++ [c]) Y]
theorem crA_pre : ∀ (X u v : List Nat), crA (u ++ v) X = if (crA v X).1 = [] then ([], u ++ (crA v X).2) else ((u ++ (crA v X).1.headD []) :: (crA v X).1.tail, (crA v X).2)
  | [], u, v => by rw [crA_nil, crA_nil, if_pos rfl]
  | c :: X, u, v => by
    by_cases h : c = 10
    · subst h; rw [crA_nl, crA_nl, if_neg (by simp)]; rfl
    · rw [crA_c h, crA_c h, List.append_assoc, crA_pre X u (v ++ [c])]
theorem crA_from (X u : List Nat) : crA u X = if (crA [] X).1 = [] then ([], u ++ (crA [] X).2) else ((u ++ (crA [] X).1.headD []) :: (crA [] X).1.tail, (crA [] X).2) := by
  have := crA_pre X u []
  rwa [List.append_nil] at this
theorem linesA_cr : ∀ (X u : List Nat), linesA u X = (crA u X).1 ++ if (crA u X).2 = [] then [] else [(crA u X).2]
  | [], u => by rw [crA_nil, linesA]; rfl
  | c :: X, u => by
    by_cases h : c = 10
    · subst h; rw [crA_nl, linesA_nl, linesA_cr X []]; rfl
    · rw [crA_c h, linesA_c h, linesA_cr X (u ++ [c])]
theorem crA_count : ∀ (X u : List Nat), (crA u X).1.length = nls X
  | [], u => rfl
  | c :: X, u => by
    by_cases h : c = 10
    · subst h; rw [crA_nl, List.length_cons, crA_count X []]; rfl
    · rw [crA_c h, crA_count X (u ++ [c])]
      unfold nls; rw [List.filter_cons_of_neg (by simpa using h)]
theorem crA_one {c : Nat} (h : c ≠ 10) (u : List Nat) : crA u [c] = ([], u ++ [c]) := by rw [crA_c h, crA_nil]
theorem crA_whole : ∀ (X u : List Nat), (crA u X).1 = [] → (crA u X).2 = u ++ X
  | [], u, _ => by rw [crA_nil, List.append_nil]
  | c :: X, u, h => by
    by_cases hc : c = 10
    · subst hc; rw [crA_nl] at h; simp at h
    · rw [crA_c hc] at h ⊢
      rw [crA_whole X (u ++ [c]) h, List.append_assoc]; rfl
theorem crA_rest_le : ∀ (X u : List Nat), (crA u X).2.length ≤ u.length + X.length
  | [], u => by rw [crA_nil]; simp
  | c :: X, u => by
    by_cases h : c = 10
    · subst h; rw [crA_nl]; have := crA_rest_le X []; simp at this ⊢; omega
    · rw [crA_c h]; have := crA_rest_le X (u ++ [c]); simp at this ⊢; omega
end Go.Proofs.YtgifhgnccmnbiabGreatDoor

set_option linter.unusedVariables false
set_option linter.unusedSimpArgs false
namespace Go.Proofs.YtgifhgnccmnbiabGreatDoor

theorem b64_zero {X : B64} : X = 0#64 ↔ ∀ b, X.getLsbD b = false := by
  constructor
  · intro h b; rw [h]; simp
  · intro h; apply BitVec.eq_of_getLsbD_eq; intro i hi; rw [h i]; simp
theorem fq_bit (m : MP) (S : B64) : ∀ q b, (followQ m S q).getLsbD b = true ↔ ∃ i, i < q ∧ S.getLsbD i = true ∧ (m.next i).getLsbD b = true
  | 0, b => by
    rw [followQ]; simp
  | q + 1, b => by
    rw [followQ]
    have ih := fq_bit m S q b
    by_cases h : S.getLsbD q = true
    · rw [if_pos h, bit_or, Bool.or_eq_true, ih]
      constructor
      · rintro (⟨i, h1, h2⟩ | h1)
        · exact ⟨i, by omega, h2⟩
        · exact ⟨q, by omega, h, h1⟩
      · rintro ⟨i, h1, h2, h3⟩
        by_cases hi : i = q
        · subst hi; exact Or.inr h3
        · exact Or.inl ⟨i, by omega, h2, h3⟩
    · rw [if_neg h, ih]
      constructor
      · rintro ⟨i, h1, h2⟩; exact ⟨i, by omega, h2⟩
      · rintro ⟨i, h1, h2, h3⟩
        by_cases hi : i = q
        · subst hi; exact absurd h2 h
        · exact ⟨i, by omega, h2, h3⟩
theorem from_bit (m : MP) (tk S : B64) (b : Nat) : (fromP m tk S).getLsbD b = true ↔ tk.getLsbD b = true ∧ ∃ i, i < 63 ∧ S.getLsbD i = true ∧ (m.next i).getLsbD b = true := by
  unfold fromP
  rw [bit_and, Bool.and_eq_true, fq_bit, And.comm]
theorem into_bitQ (m : MP) (tk X : B64) : ∀ q, q ≤ 63 → ∀ i, (intoQ m tk X q).getLsbD i = true ↔ i < q ∧ m.next i &&& tk &&& X ≠ 0#64
  | 0, _, i => by rw [intoQ]; simp
  | q + 1, hq, i => by
    have ih := into_bitQ m tk X q (by omega) i
    rw [intoQ]
    by_cases h : m.next q &&& tk &&& X = 0#64
    · rw [if_pos h, ih]
      constructor
      · rintro ⟨h1, h2⟩; exact ⟨by omega, h2⟩
      · rintro ⟨h1, h2⟩
        by_cases hi : i = q
        · subst hi; exact absurd h h2
        · exact ⟨by omega, h2⟩
    · rw [if_neg h, bit_or, Bool.or_eq_true, ih]
      have hb : (1#64 <<< q : B64).getLsbD i = true ↔ i = q := by
        rw [bit_shl]
        simp
        constructor
        · rintro ⟨⟨h1, h2⟩, h3⟩
          omega
        · rintro rfl
          omega
      rw [hb]
      constructor
      · rintro (⟨h1, h2⟩ | rfl)
        · exact ⟨by omega, h2⟩
        · exact ⟨by omega, h⟩
      · rintro ⟨h1, h2⟩
        by_cases hi : i = q
        · exact Or.inr hi
        · exact Or.inl ⟨by omega, h2⟩
theorem and_ne {X Y : B64} : X &&& Y ≠ 0#64 ↔ ∃ b, X.getLsbD b = true ∧ Y.getLsbD b = true := by
  constructor
  · intro h
    apply Classical.byContradiction
    intro hn
    apply h
    rw [b64_zero]
    intro b
    rw [bit_and]
    cases h1 : X.getLsbD b with
    | false => rfl
    | true =>
      cases h2 : Y.getLsbD b with
      | false => rfl
      | true => exact absurd ⟨b, h1, h2⟩ hn
  · rintro ⟨b, h1, h2⟩ h
    have := b64_zero.1 h b
    rw [bit_and, h1, h2] at this
    cases this
theorem into_from' (m : MP) (tk S X : B64) : (∃ b, S.getLsbD b = true ∧ (intoP m tk X).getLsbD b = true) ↔ ∃ b, (fromP m tk S).getLsbD b = true ∧ X.getLsbD b = true := by
  constructor
  · rintro ⟨i, h1, h2⟩
    obtain ⟨h3, h4⟩ := (into_bitQ m tk X 63 (Nat.le_refl _) i).1 h2
    obtain ⟨b, h5, h6⟩ := and_ne.1 h4
    rw [bit_and, Bool.and_eq_true] at h5
    exact ⟨b, (from_bit m tk S b).2 ⟨h5.2, i, h3, h1, h5.1⟩, h6⟩
  · rintro ⟨b, h1, h2⟩
    obtain ⟨h3, i, h4, h5, h6⟩ := (from_bit m tk S b).1 h1
    exact ⟨i, h5, (into_bitQ m tk X 63 (Nat.le_refl _) i).2 ⟨h4, and_ne.2 ⟨b, by rw [bit_and, h6, h3]; rfl, h2⟩⟩⟩
/-- What is reached from a set, told from the other end. -/
theorem into_from (m : MP) (tk S X : B64) : S &&& intoP m tk X = 0#64 ↔ fromP m tk S &&& X = 0#64 := by
  have key : S &&& intoP m tk X ≠ 0#64 ↔ fromP m tk S &&& X ≠ 0#64 := by
    rw [and_ne, and_ne]
    exact into_from' m tk S X
  exact ⟨fun h => Classical.byContradiction fun hc => key.2 hc h, fun h => Classical.byContradiction fun hc => key.1 hc h⟩
/-- A way, and another one behind it. -/
def thenN (m : MP) (tk : B64) (m' : MP) (tk' : B64) (i : Nat) : B64 := fromP m' tk' (m.next i &&& tk)
def tabM (nx : Nat → B64) : MP := { next := nx }
theorem then_from (m : MP) (tk : B64) (m' : MP) (tk' S : B64) : fromP (tabM (thenN m tk m' tk')) tk' S = fromP m' tk' (fromP m tk S) := by
  apply BitVec.eq_of_getLsbD_eq
  intro b _
  rw [Bool.eq_iff_iff, from_bit, from_bit]
  constructor
  · rintro ⟨h1, i, h2, h3, h4⟩
    obtain ⟨_, j, h5, h6, h7⟩ := (from_bit m' tk' _ b).1 h4
    rw [bit_and, Bool.and_eq_true] at h6
    exact ⟨h1, j, h5, (from_bit m tk S j).2 ⟨h6.2, i, h2, h3, h6.1⟩, h7⟩
  · rintro ⟨h1, j, h2, h3, h4⟩
    obtain ⟨h5, i, h6, h7, h8⟩ := (from_bit m tk S j).1 h3
    exact ⟨h1, i, h6, h7, (from_bit m' tk' _ b).2 ⟨h1, j, h2, by rw [bit_and, h8, h5]; rfl, h4⟩⟩

/-- The set behind some bytes of a line. -/
def runM (M : MP) (X : List Nat) (S : B64) : B64 := X.foldl (fun S c => fromP M (M.takes c) S) S
theorem runM_app (M : MP) (X Y : List Nat) (S : B64) : runM M (X ++ Y) S = runM M Y (runM M X S) := by unfold runM; rw [List.foldl_append]
theorem runM_one (M : MP) (c : Nat) (S : B64) : runM M [c] S = fromP M (M.takes c) S := rfl
/-- Is a line selected? -/
def selL (M : MP) (inv : Bool) (l : List Nat) : Bool := !decide (runM M l M.beg &&& M.en = 0#64) != inv
def cnt (M : MP) (inv : Bool) (ls : List (List Nat)) : Nat := (ls.filter (selL M inv)).length
theorem cnt_app (M : MP) (inv : Bool) (a b : List (List Nat)) : cnt M inv (a ++ b) = cnt M inv a + cnt M inv b := by unfold cnt; rw [List.filter_append, List.length_append]
theorem cnt_le (M : MP) (inv : Bool) (a : List (List Nat)) : cnt M inv a ≤ a.length := List.length_filter_le _ _
theorem cnt_cons (M : MP) (inv : Bool) (l : List Nat) (a : List (List Nat)) : cnt M inv (l :: a) = (if selL M inv l = true then 1 else 0) + cnt M inv a := by
  unfold cnt
  rw [List.filter_cons]
  split
  · simp; omega
  · simp

/-- What is known of a piece. -/
structure PCE where
  len : Nat := 0
  nl : Nat := 0
  nx : Nat → B64 := fun _ => 0#64
  tk : B64 := 0#64
  inside : Nat := 0
  en : B64 := 0#64
  la : B64 := 0#64
  tail : Nat := 0
structure PieceOk (M : MP) (inv : Bool) (x : List Nat) (p : PCE) : Prop where
  len : p.len = x.length
  nl : p.nl = (crA [] x).1.length
  way : p.nl = 0 → ∀ S, fromP (tabM p.nx) p.tk S = runM M x S
  en : p.nl ≠ 0 → ∀ S, S &&& p.en = 0#64 ↔ runM M ((crA [] x).1.headD []) S &&& M.en = 0#64
  la : p.nl ≠ 0 → p.la = runM M (crA [] x).2 M.beg
  tail : p.nl ≠ 0 → p.tail = (crA [] x).2.length
  inside : p.nl ≠ 0 → p.inside = cnt M inv (crA [] x).1.tail
/-- How many selected lines end in it, where that set is ahead of it. -/
def endsP (inv : Bool) (p : PCE) (S : B64) : Nat := if p.nl = 0 then 0 else if (!decide (S &&& p.en = 0#64) != inv) = true then p.inside + 1 else p.inside
def setP (p : PCE) (S : B64) : B64 := if p.nl = 0 then fromP (tabM p.nx) p.tk S else p.la
def joinPC (inv : Bool) (a b : PCE) : PCE :=
  if a.nl + b.nl = 0 then { len := a.len + b.len, nl := 0, nx := thenN (tabM a.nx) a.tk (tabM b.nx) b.tk, tk := b.tk }
  else { len := a.len + b.len, nl := a.nl + b.nl,
         inside := if 0 < a.nl then a.inside + endsP inv b a.la else b.inside,
         en := if 0 < a.nl then a.en else intoP (tabM a.nx) a.tk b.en,
         la := if 0 < b.nl then b.la else fromP (tabM b.nx) b.tk a.la,
         tail := if 0 < b.nl then b.tail else a.tail + b.len }
def bytePC (M : MP) (c : Nat) : PCE := if c = 10 then { len := 1, nl := 1, en := M.en, la := M.beg } else { len := 1, nx := M.next, tk := M.takes c }
theorem fromP_tab (M : MP) (tk S : B64) : fromP (tabM M.next) tk S = fromP M tk S := fromP_next (m := M) (m' := tabM M.next) rfl tk S
theorem bytePC_ok (M : MP) (inv : Bool) (c : Nat) : PieceOk M inv [c] (bytePC M c) := by
  unfold bytePC
  by_cases h : c = 10
  · subst h
    rw [if_pos rfl]
    exact ⟨rfl, rfl, (fun h => by cases h), fun _ S => Iff.rfl, fun _ => rfl, fun _ => rfl, fun _ => rfl⟩
  · rw [if_neg h]
    have e := crA_one h []
    refine ⟨rfl, by rw [e]; rfl, fun _ S => by rw [runM_one]; exact fromP_tab M _ S, fun h => absurd rfl h, fun h => absurd rfl h, fun h => absurd rfl h, fun h => absurd rfl h⟩
section
variable {M : MP} {inv : Bool} {x : List Nat} {p : PCE} (h : PieceOk M inv x p)
include h
theorem PieceOk.zero (hn : p.nl = 0) : (crA [] x).1 = [] ∧ (crA [] x).2 = x := by
  have h1 : (crA [] x).1 = [] := List.eq_nil_of_length_eq_zero (by rw [← h.nl]; exact hn)
  exact ⟨h1, by have := crA_whole x [] h1; rwa [List.nil_append] at this⟩
theorem PieceOk.one (hn : p.nl ≠ 0) : (crA [] x).1 ≠ [] := fun hc => hn (by rw [h.nl, hc]; rfl)
/-- Behind a line's beginning u: what ends in the piece. -/
theorem PieceOk.ends (u : List Nat) : endsP inv p (runM M u M.beg) = cnt M inv (crA u x).1 := by
  unfold endsP
  rw [crA_from]
  by_cases hn : p.nl = 0
  · rw [if_pos hn, if_pos (h.zero hn).1]; rfl
  · rw [if_neg hn, if_neg (h.one hn), h.inside hn]
    simp only []
    rw [cnt_cons]
    have e : (!decide (runM M u M.beg &&& p.en = 0#64) != inv) = selL M inv (u ++ (crA [] x).1.headD []) := by
      unfold selL
      rw [runM_app]
      have := h.en hn (runM M u M.beg)
      rw [decide_eq_decide.2 this]
    rw [e]
    split <;> omega
theorem PieceOk.set (u : List Nat) : setP p (runM M u M.beg) = runM M (crA u x).2 M.beg := by
  unfold setP
  rw [crA_from]
  by_cases hn : p.nl = 0
  · rw [if_pos hn, if_pos (h.zero hn).1, h.way hn, (h.zero hn).2, runM_app]
  · rw [if_neg hn, if_neg (h.one hn), h.la hn]
theorem PieceOk.rest (u : List Nat) : (crA u x).2.length = if p.nl = 0 then u.length + p.len else p.tail := by
  rw [crA_from]
  by_cases hn : p.nl = 0
  · rw [if_pos hn, if_pos (h.zero hn).1, (h.zero hn).2, h.len, List.length_append]
  · rw [if_neg hn, if_neg (h.one hn), h.tail hn]
theorem PieceOk.count (u : List Nat) : (crA u x).1.length = p.nl := by rw [crA_count, h.nl, crA_count]
end
theorem pjoin_ok {M : MP} {inv : Bool} {x y : List Nat} {a b : PCE} (ha : PieceOk M inv x a) (hb : PieceOk M inv y b) : PieceOk M inv (x ++ y) (joinPC inv a b) := by
  have hl : (crA [] (x ++ y)).1.length = a.nl + b.nl := by rw [crA_app, List.length_append, ← ha.nl, hb.count]
  unfold joinPC
  by_cases h0 : a.nl + b.nl = 0
  · rw [if_pos h0]
    refine ⟨by rw [List.length_append, ← ha.len, ← hb.len], by rw [hl, h0], fun _ S => ?_, fun h => absurd rfl h, fun h => absurd rfl h, fun h => absurd rfl h, fun h => absurd rfl h⟩
    rw [runM_app, ← ha.way (by omega), ← hb.way (by omega)]
    exact then_from _ _ _ _ _
  · rw [if_neg h0]
    refine ⟨by rw [List.length_append, ← ha.len, ← hb.len], hl.symm, fun h => absurd h h0, fun _ S => ?_, fun _ => ?_, fun _ => ?_, fun _ => ?_⟩
    · simp only []
      by_cases hn : 0 < a.nl
      · rw [if_pos hn, crA_app]
        have h1 := ha.en (by omega) S
        obtain ⟨l, r, e⟩ : ∃ l r, (crA [] x).1 = l :: r := by
          cases hx : (crA [] x).1 with
          | nil => exact absurd hx (ha.one (by omega))
          | cons l r => exact ⟨l, r, rfl⟩
        rw [e] at h1 ⊢
        exact h1
      · rw [if_neg hn, into_from, hb.en (by omega), ha.way (by omega), crA_app, (ha.zero (by omega)).1, (ha.zero (by omega)).2, crA_from y x, if_neg (hb.one (by omega))]
        simp only [List.nil_append, List.headD_cons]
        rw [runM_app]
    · simp only []
      rw [crA_app]
      by_cases hn : 0 < b.nl
      · rw [if_pos hn, hb.la (by omega), crA_from y (crA [] x).2, if_neg (hb.one (by omega))]
      · rw [if_neg hn, hb.way (by omega), ha.la (by omega), crA_from y (crA [] x).2, if_pos (hb.zero (by omega)).1, (hb.zero (by omega)).2, runM_app]
    · simp only []
      rw [crA_app, hb.rest]
      by_cases hn : 0 < b.nl
      · rw [if_pos hn, if_neg (by omega)]
      · rw [if_neg hn, if_pos (by omega), ha.tail (by omega)]
    · simp only []
      rw [crA_app]
      by_cases hn : 0 < a.nl
      · rw [if_pos hn, ha.inside (by omega), ha.la (by omega), hb.ends]
        obtain ⟨l, r, e⟩ : ∃ l r, (crA [] x).1 = l :: r := by
          cases hx : (crA [] x).1 with
          | nil => exact absurd hx (ha.one (by omega))
          | cons l r => exact ⟨l, r, rfl⟩
        rw [e]
        simp only [List.cons_append, List.tail_cons]
        rw [cnt_app]
      · rw [if_neg hn, hb.inside (by omega), (ha.zero (by omega)).1, (ha.zero (by omega)).2, crA_from y x, if_neg (hb.one (by omega))]
        rfl

end Go.Proofs.YtgifhgnccmnbiabGreatDoor

set_option linter.unusedVariables false
set_option linter.unusedSimpArgs false
namespace Go.Proofs.YtgifhgnccmnbiabGreatDoor
open Go.RowKit Go.IntWalk

def mCell (m : MP) (i : Nat) : Value :=
  if i = 0 then UV m.beg else if i = 1 then UV m.en else if i < 65 then UV (m.next (i - 2)) else if i < 321 then UV (m.takes (i - 65))
  else if i = 321 then UV m.begins else if i = 322 then UV m.ends else UV m.last
def mCells (m : MP) : Array Value := cellsF 324 (mCell m)
@[simp] theorem mCells_size (m : MP) : (mCells m).size = 324 := cellsF_size _ _

def MIn (w : World) (g : Nat) (m : MP) : Prop := Blk w g (mCells m) 101
/-- A table's cells from a place on. -/
def TabAt (w : World) (g o : Nat) (m : MP) : Prop := ∀ i, i < 63 → w.cell? ⟨g, o + i, none⟩ = some (UV (m.next i))
section
variable {w : World} {g : Nat} {m : MP}
theorem MIn.beg (h : MIn w g m) : w.cell? ⟨g, 0, none⟩ = some (UV m.beg) := by rw [Blk.cell h]; exact cellsF_get _ (by decide)
theorem MIn.en (h : MIn w g m) : w.cell? ⟨g, 1, none⟩ = some (UV m.en) := by rw [Blk.cell h]; exact cellsF_get _ (by decide)
theorem MIn.begins (h : MIn w g m) : w.cell? ⟨g, 321, none⟩ = some (UV m.begins) := by rw [Blk.cell h]; exact cellsF_get _ (by decide)
theorem MIn.ends (h : MIn w g m) : w.cell? ⟨g, 322, none⟩ = some (UV m.ends) := by rw [Blk.cell h]; exact cellsF_get _ (by decide)
theorem MIn.last (h : MIn w g m) : w.cell? ⟨g, 323, none⟩ = some (UV m.last) := by rw [Blk.cell h]; exact cellsF_get _ (by decide)
theorem MIn.next (h : MIn w g m) {i : Nat} (hi : i < 63) : w.cell? ⟨g, 2 + i, none⟩ = some (UV (m.next i)) := by
  rw [Blk.cell h]
  unfold mCells
  rw [cellsF_get _ (by omega)]
  unfold mCell
  rw [if_neg (by omega), if_neg (by omega), if_pos (by omega), show 2 + i - 2 = i by omega]
theorem MIn.tab (h : MIn w g m) : TabAt w g 2 m := fun i hi => h.next hi
theorem MIn.takes (h : MIn w g m) {i : Nat} (hi : i < 256) : w.cell? ⟨g, 65 + i, none⟩ = some (UV (m.takes i)) := by
  rw [Blk.cell h]
  unfold mCells
  rw [cellsF_get _ (by omega)]
  unfold mCell
  rw [if_neg (by omega), if_neg (by omega), if_neg (by omega), if_pos (by omega), show 65 + i - 65 = i by omega]
end

theorem one_shl {q : Nat} (hq : q < 64) : ((1#64 <<< q : B64).toNat : Int) = 2 ^ q := by
  have h : 2 ^ q < 2 ^ 64 := Nat.pow_lt_pow_right (by decide) hq
  rw [BitVec.toNat_shiftLeft, Nat.shiftLeft_eq, Nat.mod_eq_of_lt (by simpa using h)]
  simp

theorem Kept.cell {w w' : World} (k : Kept [] w w') {g : Nat} (hg : g < w.heap.size) (j : Nat) : w'.cell? ⟨g, j, none⟩ = w.cell? ⟨g, j, none⟩ := by
  unfold World.cell?
  simp only []
  rw [k.block g hg (by simp)]

/-- A way as a value: the table's place, and the set that is taken. -/
abbrev WV (g o : Nat) (tk : B64) : Value := .agg #[.pointer (some ⟨g, o, none⟩), UV tk]

theorem ushr (S : B64) (q : Nat) : ((S >>> q : B64).toNat : Int) / 2 = ((S >>> (q + 1) : B64).toNat : Int) := by
  rw [BitVec.toNat_ushiftRight, BitVec.toNat_ushiftRight, Nat.shiftRight_eq_div_pow, Nat.shiftRight_eq_div_pow, Nat.pow_succ, ← Nat.div_div_eq_div_mul]
  rfl
theorem ushr_bit (S : B64) (q : Nat) : (S >>> q : B64).getLsbD 0 = S.getLsbD q := by simp
theorem follow_end {m : MP} {S : B64} {q : Nat} (h : S >>> q = 0#64) : ∀ k, followQ m S (q + k) = followQ m S q
  | 0 => rfl
  | k + 1 => by
    have hb : S.getLsbD (q + k) = false := by
      have h1 : (S >>> q : B64).getLsbD k = S.getLsbD (q + k) := by simp
      rw [← h1, h]; simp
    show (if S.getLsbD (q + k) = true then followQ m S (q + k) ||| m.next (q + k) else followQ m S (q + k)) = _
    rw [if_neg (by rw [hb]; decide), follow_end h k]

theorem TabAt.kept {w w' : World} {g o : Nat} {m : MP} (h : TabAt w g o m) (k : Kept [] w w') (hg : g < w.heap.size) : TabAt w' g o m := fun i hi => by
  rw [← h i hi]
  unfold World.cell?
  simp only []
  rw [k.block g hg (by simp)]
theorem TabAt.alloc {w : World} {g o : Nat} {m : MP} (h : TabAt w g o m) (x : Obj) : TabAt (w.alloc x) g o m :=
  h.kept ((Kept.refl _ _).alloc x) (by
    have := h 0 (by omega)
    unfold World.cell? at this
    simp only [] at this
    cases hb : w.heap[g]? with
    | none => rw [hb] at this; simp at this
    | some y => exact (Array.getElem?_eq_some_iff.1 hb).1)

set_option maxHeartbeats 2000000 in
set_option maxRecDepth 100000 in
theorem from_any (m : MP) (g o : Nat) (tk S : B64) (w : World) (h : TabAt w g o m) :
    Calls Tryz.prog 124 #[WV g o tk, .int .u64 (S.toNat : Int)] w fun e w' => e = .returned (.int .u64 ((fromP m tk S).toNat : Int)) ∧ Kept [] w w' := by
  have hk : Hid (∀ o1, Kept [] w (w.alloc o1)) := fun o1 => (Kept.refl [] w).alloc _
  have hT : Hid (∀ x, TabAt (w.alloc x) g o m) := fun x => h.alloc x
  clear h
  go_enter Tryz.func124, Tryz.ntmps124
  go_wp2_with fail
  go_loop [1, 5, 6] (fun av bv iv => ∃ q : Nat, av = .int .u64 ((S >>> q : B64).toNat : Int) ∧ bv = .int .u64 ((followQ m S q).toNat : Int) ∧ iv = .int .i64 (q : Int) ∧ q ≤ 63) (fun _ _ iv => (63 - intOf iv).toNat)
  case atStart => exact ⟨0, by simp, rfl, rfl, by omega⟩
  case round =>
    obtain ⟨q, rfl, rfl, rfl, hq⟩ := hrel
    by_cases hlt : (q : Int) < 63
    · have hqn : q < 63 := by omega
      by_cases hz : S >>> q = 0#64
      · have e0 : ((S >>> q : B64).toNat : Int) = 0 := (u_zero _).2 hz
        have hF : Hid (fromP m tk S = followQ m S q &&& tk) := by
          show fromP m tk S = _
          unfold fromP
          have := follow_end (m := m) hz (63 - q)
          rw [show q + (63 - q) = 63 by omega] at this
          rw [this]
        have ha := and_u (followQ m S q) tk
        rw [← hF.out] at ha
        clear hz
        obtain ⟨R, hR⟩ : ∃ R, Hid (fromP m tk S = R) := ⟨_, rfl⟩
        rw [hR.out] at ha
        clear hF
        generalize followQ m S q = FF at *
        generalize (S >>> q : B64) = A at *
        go_wp2
        go_ret
        exact ⟨by rw [hR.out]; rfl, hk.out _⟩
      · have e0 : ((S >>> q : B64).toNat : Int) ≠ 0 := fun hc => hz ((u_zero _).1 hc)
        have hsh := ushr S q
        have hhas : Hid (∀ w, Calls Tryz.prog 143 #[.int .u64 ((S >>> q : B64).toNat : Int), .int .i64 0] w fun e w' => e = .returned (.bool ((S >>> q : B64).getLsbD 0)) ∧ w' = w) := fun w => has_any (S >>> q) 0 (by omega) w
        rw [ushr_bit] at hhas
        have hc : Hid (∀ x, (w.alloc x).cell? ⟨g, o + q, none⟩ = some (UV (m.next q))) := fun x => hT.out x q hqn
        have hor := or_u (followQ m S q) (m.next q)
        have hon : Hid (S.getLsbD q = true → followQ m S (q + 1) = followQ m S q ||| m.next q) := fun hb => by rw [followQ, if_pos hb]
        have hoff : Hid (S.getLsbD q = false → followQ m S (q + 1) = followQ m S q) := fun hb => by rw [followQ, if_neg (by rw [hb]; decide)]
        clear hz
        obtain ⟨A2, hA2⟩ : ∃ A2, Hid ((S >>> (q + 1) : B64) = A2) := ⟨_, rfl⟩
        rw [hA2.out] at hsh
        generalize (S >>> q : B64) = A at *
        cases hbit : S.getLsbD q with
        | true =>
          have e : Hid (_ = _) := hon.out hbit
          rw [hbit] at hhas
          clear hbit hon hoff
          have hc1 := hc.out (.cells #[.pointer (some ⟨g, o, none⟩), UV tk] 167)
          generalize followQ m S q ||| m.next q = Z at hor e
          go_wp2_with (go_at_call 143; refine (hhas.out _).mono ?_; rintro _ _ ⟨rfl, rfl⟩)
          go_round
          case rel => exact ⟨q + 1, by rw [hA2.out, ← hsh], by rw [e.out], by go_num, by omega⟩
          case measure => simp [intOf]; omega
        | false =>
          have e : Hid (_ = _) := hoff.out hbit
          rw [hbit] at hhas
          clear hbit hon hoff
          go_wp2_with (go_at_call 143; refine (hhas.out _).mono ?_; rintro _ _ ⟨rfl, rfl⟩)
          go_round
          case rel => exact ⟨q + 1, by rw [hA2.out, ← hsh], by rw [e.out], by go_num, by omega⟩
          case measure => simp [intOf]; omega
    · have hqe : q = 63 := by omega
      subst hqe
      have ha : bits .and .u64 ((followQ m S 63).toNat : Int) (tk.toNat : Int) = ((fromP m tk S).toNat : Int) := and_u (followQ m S 63) tk
      obtain ⟨R, hR⟩ : ∃ R, Hid (fromP m tk S = R) := ⟨_, rfl⟩
      rw [hR.out] at ha
      go_wp2
      go_ret
      exact ⟨by rw [hR.out]; rfl, hk.out _⟩

set_option maxHeartbeats 2000000 in
set_option maxRecDepth 100000 in
theorem into_any (m : MP) (g o : Nat) (tk S : B64) (w : World) (h : TabAt w g o m) :
    Calls Tryz.prog 182 #[WV g o tk, .int .u64 (S.toNat : Int)] w fun e w' => e = .returned (.int .u64 ((intoP m tk S).toNat : Int)) ∧ Kept [] w w' := by
  have hT : Hid (TabAt (w.alloc (.cells #[.pointer (some ⟨g, o, none⟩), UV tk] 167)) g o m) := h.alloc _
  have hbl : Hid (Blk (w.alloc (.cells #[.pointer (some ⟨g, o, none⟩), UV tk] 167)) w.heap.size #[.pointer (some ⟨g, o, none⟩), UV tk] 167) := Blk.new w _ _
  have hk : Hid (Kept [] w (w.alloc (.cells #[.pointer (some ⟨g, o, none⟩), UV tk] 167))) := (Kept.refl [] w).alloc _
  clear h
  go_enter Tryz.func182, Tryz.ntmps182
  go_wp2_with fail
  go_loopw [5, 6] (fun bv iv wr => ∃ q : Nat, bv = .int .u64 ((intoQ m tk S q).toNat : Int) ∧ iv = .int .i64 (q : Int) ∧ q ≤ 63 ∧ TabAt wr g o m ∧ Blk wr w.heap.size #[.pointer (some ⟨g, o, none⟩), UV tk] 167 ∧ Kept [] w wr) (fun _ iv _ => (63 - intOf iv).toNat)
  case atStart => exact ⟨0, rfl, rfl, by omega, hT.out, hbl.out, hk.out⟩
  case round =>
    obtain ⟨q, rfl, rfl, hq, hT1, hb1, hk1⟩ := hrel
    clear hT hbl hk
    by_cases hlt : (q : Int) < 63
    · have hqn : q < 63 := by omega
      have c1 := hT1 q hqn
      have c2 : wr.cell? ⟨w.heap.size, 0, none⟩ = some (.pointer (some ⟨g, o, none⟩)) := hb1.cell 0
      have c3 : wr.cell? ⟨w.heap.size, 1, none⟩ = some (UV tk) := hb1.cell 1
      have a1 := and_u (m.next q) tk
      have a2 := and_u (m.next q &&& tk) S
      have hD : Hid (∀ n, TabAt (wr.drewN n) g o m ∧ Blk (wr.drewN n) w.heap.size #[.pointer (some ⟨g, o, none⟩), UV tk] 167 ∧ Kept [] w (wr.drewN n)) := fun n => ⟨hT1, hb1, hk1.drewN n⟩
      have hon : Hid (m.next q &&& tk &&& S ≠ 0#64 → intoQ m tk S (q + 1) = intoQ m tk S q ||| (1#64 <<< q)) := fun hb => by rw [intoQ, if_neg hb]
      have hoff : Hid (m.next q &&& tk &&& S = 0#64 → intoQ m tk S (q + 1) = intoQ m tk S q) := fun hb => by rw [intoQ, if_pos hb]
      have hor := or_u (intoQ m tk S q) (1#64 <<< q)
      have hw1 : IntKind.wrap .u64 ((2 : Int) ^ q) = ((1#64 <<< q : B64).toNat : Int) := by rw [← one_shl (by omega)]; exact wrap_u _ (BitVec.isLt _)
      have hw2 : IntKind.wrap .u64 (1 * (2 : Int) ^ q) = ((1#64 <<< q : B64).toNat : Int) := by rw [Int.one_mul]; exact hw1
      clear hT1 hb1 hk1
      generalize m.next q &&& tk = Y at *
      generalize Y &&& S = X at *
      by_cases hz : X = 0#64
      · have e : Hid (_ = _) := hoff.out hz
        have eX : (X.toNat : Int) = 0 := (u_zero X).2 hz
        clear hz hon hoff hor hw1 hw2
        go_wp2
        go_quiet (fail)
        go_wp2
        refine ⟨⟨q + 1, by rw [e.out], by go_num, by omega, hD.out _⟩, ?_⟩
        simp only [intOf]; omega
      · have e : Hid (_ = _) := hon.out hz
        have eX : (X.toNat : Int) ≠ 0 := fun hc => hz ((u_zero X).1 hc)
        clear hz hon hoff
        generalize (1#64 <<< q : B64) = Z at *
        generalize intoQ m tk S q ||| Z = V at *
        go_wp2
        go_quiet (fail)
        go_wp2
        refine ⟨⟨q + 1, by rw [e.out], by go_num, by omega, hD.out _⟩, ?_⟩
        simp only [intOf]; omega
    · have hqe : q = 63 := by omega
      subst hqe
      have hkH : Hid (Kept _ _ _) := hk1
      have e : Hid (intoP m tk S = intoQ m tk S 63) := rfl
      clear hT1 hb1 hk1
      go_wp2
      go_ret
      exact ⟨by rw [e.out]; rfl, hkH.out⟩

end Go.Proofs.YtgifhgnccmnbiabGreatDoor

set_option linter.unusedVariables false
set_option linter.unusedSimpArgs false
namespace Go.Proofs.YtgifhgnccmnbiabGreatDoor
open Go.RowKit Go.IntWalk

def holdsP (its : List (Int × Int)) (c : Int) : Bool := its.any fun x => decide (x.1 ≤ c) && decide (c ≤ x.2)
def otherC (c : Nat) : Nat := if 65 ≤ c ∧ c ≤ 90 then c + 32 else if 97 ≤ c ∧ c ≤ 122 then c - 32 else c

theorem itemCells_get : ∀ (l : List (Int × Int)) (i : Nat) (x : Int × Int), l[i]? = some x → (itemCells l)[i * 2]? = some (.int .i64 x.1) ∧ (itemCells l)[i * 2 + 1]? = some (.int .i64 x.2)
  | [], i, x, h => by simp at h
  | y :: l, 0, x, h => by simp at h; subst h; exact ⟨rfl, rfl⟩
  | y :: l, i + 1, x, h => by
    simp at h
    have := itemCells_get l i x h
    have e : (i + 1) * 2 = i * 2 + 1 + 1 := by omega
    rw [e]
    exact this

theorem ItemsOk.keep {w w' : World} {B : Nat} {x : IV} {its : List (Int × Int)} {S : List Nat} (h : ItemsOk w B x its) (k : Kept S w w') (hs : ∀ g, g ∈ S → (ivV x).ownBlock ≠ some g) : ItemsOk w' B x its := by
  refine ⟨h.1, ?_⟩
  rcases h.2 with h1 | ⟨g, cap, cur, h1, h2, h3, h4⟩
  · exact Or.inl h1
  · have hlt : g < w.heap.size := (Array.getElem?_eq_some_iff.1 h3).1
    refine Or.inr ⟨g, cap, cur, h1, h2, (k.block g hlt (fun hc => ?_)).trans h3, h4⟩
    have := hs g hc
    rw [h1] at this
    exact this rfl
theorem ItemsOk.same {w w' : World} {B : Nat} {x : IV} {its : List (Int × Int)} (h : ItemsOk w B x its) (k : w'.heap = w.heap) : ItemsOk w' B x its := by
  refine ⟨h.1, ?_⟩
  rcases h.2 with h1 | ⟨g, cap, cur, h1, h2, h3, h4⟩
  · exact Or.inl h1
  · exact Or.inr ⟨g, cap, cur, h1, h2, by rw [k]; exact h3, h4⟩

set_option maxHeartbeats 2000000 in
set_option maxRecDepth 100000 in
theorem holds_any (its : List (Int × Int)) (B : Nat) (x : IV) (c : Int) (w : World) (h : ItemsOk w B x its) (hl : its.length ≤ 1000) (hc0 : 0 ≤ c) (hc : c ≤ 255) :
    Calls Tryz.prog 180 #[.slice x.1 x.2.1 x.2.2, .int .i64 c] w fun e w' => e = .returned (.bool (holdsP its c)) ∧ w' = w := by
  obtain ⟨a, cap, hx⟩ : ∃ a cap, ivV x = .slice a its.length cap := by
    rcases h.2 with ⟨h1, h2⟩ | ⟨g, cap, _, h1, _⟩
    · exact ⟨none, 0, by rw [h1, h2]⟩
    · exact ⟨_, cap, h1⟩
  have hx' : Value.slice x.1 x.2.1 x.2.2 = .slice a its.length cap := hx
  rw [hx']
  clear hx'
  go_enter Tryz.func180, Tryz.ntmps180
  go_wp2_with fail
  go_loop [5] (fun iv => ∃ q : Nat, iv = .int .i64 (q : Int) ∧ q ≤ its.length ∧ holdsP (its.take q) c = false) (fun iv => ((its.length : Int) - intOf iv).toNat)
  case atStart => exact ⟨0, rfl, by omega, rfl⟩
  case round =>
    obtain ⟨q, rfl, hq, hno⟩ := hrel
    by_cases hlt : (q : Int) < (its.length : Int)
    · have hqn : q < its.length := by omega
      obtain ⟨y, hy⟩ : ∃ y, its[q]? = some y := ⟨_, List.getElem?_eq_getElem hqn⟩
      obtain ⟨g, cap', hv⟩ := own_form h (by omega)
      rw [hx] at hv
      simp only [Value.slice.injEq] at hv
      obtain ⟨rfl, _, rfl⟩ := hv
      obtain ⟨g1, g2⟩ := itemCells_get its q y hy
      have hown : w.ownsRow B 270 2 (.slice (some ⟨g, 0, none⟩) its.length cap) its.length (itemCells its) := by have := h; unfold ItemsOk at this; rwa [hx] at this
      have c1 := hown.cells (g := g) rfl _ _ g1
      have c2 := hown.cells (g := g) rfl _ _ g2
      rw [show (⟨g, 0, none⟩ : Addr).add (q * 2) = ⟨g, q * 2, none⟩ by simp [Addr.add]; omega] at c1
      rw [show (⟨g, 0, none⟩ : Addr).add (q * 2 + 1) = ⟨g, q * 2 + 1, none⟩ by simp [Addr.add]] at c2
      have hsnoc : its.take (q + 1) = its.take q ++ [y] := by rw [List.take_add_one, hy]; rfl
      have hnext : Hid (¬ (y.1 ≤ c ∧ c ≤ y.2) → holdsP (its.take (q + 1)) c = false) := fun hn => by
        unfold holdsP at *
        rw [hsnoc, List.any_append, hno]
        simpa using fun h1 => by have := fun h2 => hn ⟨h1, h2⟩; omega
      have hyes : Hid (y.1 ≤ c → c ≤ y.2 → holdsP its c = true) := fun h1 h2 => by
        unfold holdsP
        exact List.any_eq_true.2 ⟨y, List.mem_of_getElem? hy, by simp [h1, h2]⟩
      clear hx hown g1 g2 hno hsnoc hy h
      generalize hlo : y.1 = lo at *
      generalize hhi : y.2 = hi at *
      clear hlo hhi
      by_cases h1 : lo ≤ c
      · by_cases h2 : c ≤ hi
        · have hyH : Hid (holdsP its c = true) := hyes.out h1 h2
          clear hyes hnext
          go_wp2
          go_ret
          exact ⟨by rw [hyH.out]; rfl, rfl⟩
        · have hnH : Hid _ := hnext.out (fun hc => h2 hc.2)
          clear hyes hnext
          have h2 : hi < c := by omega
          go_wp2
          refine ⟨⟨q + 1, by go_num, by omega, hnH.out⟩, ?_⟩
          simp only [intOf]; omega
      · have hnH : Hid _ := hnext.out (fun hc => h1 hc.1)
        clear hyes hnext
        have h1 : c < lo := by omega
        go_wp2
        refine ⟨⟨q + 1, by go_num, by omega, hnH.out⟩, ?_⟩
        simp only [intOf]; omega
    · have hqe : q = its.length := by omega
      subst hqe
      rw [List.take_length] at hno
      have hnH : Hid (_ = _) := hno
      clear hno hx h
      go_wp2
      go_ret
      exact ⟨by rw [hnH.out]; rfl, rfl⟩

set_option maxHeartbeats 1000000 in
theorem otherCase_any (c : Nat) (hc : c < 256) (w : World) :
    Calls Tryz.prog 181 #[.int .i64 (c : Int)] w fun e w' => e = .returned (.int .i64 (otherC c : Int)) ∧ w' = w := by
  by_cases h1 : 65 ≤ c ∧ c ≤ 90
  · obtain ⟨a1, a2⟩ := h1
    have e : Hid (((otherC c : Nat) : Int) = (c : Int) - 65 + 97) := by show ((otherC c : Nat) : Int) = _; unfold otherC; rw [if_pos ⟨a1, a2⟩]; omega
    go_enter Tryz.func181, Tryz.ntmps181
    go_wp2
    go_ret
    exact ⟨ret_int (by have := e.out; omega), rfl⟩
  · by_cases h2 : 97 ≤ c ∧ c ≤ 122
    · obtain ⟨a1, a2⟩ := h2
      clear h1
      have e : Hid (((otherC c : Nat) : Int) = (c : Int) - 97 + 65) := by show ((otherC c : Nat) : Int) = _; unfold otherC; rw [if_neg (by omega), if_pos ⟨a1, a2⟩]; omega
      go_enter Tryz.func181, Tryz.ntmps181
      go_wp2
      go_ret
      exact ⟨ret_int (by have := e.out; omega), rfl⟩
    · have e : Hid (otherC c = c) := by show otherC c = c; unfold otherC; rw [if_neg h1, if_neg h2]
      have cs : c < 65 ∨ (90 < c ∧ c < 97) ∨ 122 < c := by omega
      clear h1 h2
      rcases cs with h1 | ⟨h1, h2⟩ | h1 <;>
      · go_enter Tryz.func181, Tryz.ntmps181
        go_wp2
        go_ret
        exact ⟨ret_int (by rw [e.out]), rfl⟩

end Go.Proofs.YtgifhgnccmnbiabGreatDoor
