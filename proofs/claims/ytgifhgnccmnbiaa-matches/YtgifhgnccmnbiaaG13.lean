/- The reader on a pattern that stands in brackets within a greater one: it reads the same. No Go in it. -/
import Derived.Test.YtgifhgnccmnbiaaG06
import Derived.Test.YtgifhgnccmnbiaaG12
import Derived.Test.YtgifhgnccmnbiaaG01
import Derived.Test.YtgifhgnccmnbiaaG03
import Derived.Test.YtgifhgnccmnbiaaG04
set_option linter.unusedVariables false
set_option linter.unusedSimpArgs false
namespace Go.Proofs.Ytgifhgnccmnbiaa

/-- The pattern p stands in t from place a on, and behind it a closing bracket. -/
structure Emb (p t : ByteArray) (a : Nat) : Prop where
  byte : ∀ i, i < p.size → pk t (a + i) = pk p i
  stop : pk t (a + p.size) = 41
def shP (a : Nat) (s : RS) : RS := (a + s.1, s.2)

section
variable {p t : ByteArray} {a : Nat} (e : Emb p t a)
include e
theorem emb_lt : a + p.size < t.size := pk_some (by rw [e.stop]; omega)
theorem sh_pk {s : RS} (h : s.1 < p.size) : pk t (shP a s).1 = pk p s.1 := e.byte _ h
theorem sh_end {s : RS} (h : ¬ s.1 < p.size) (hf : Fits p s) : pk t (shP a s).1 = 41 ∧ pk p s.1 = -1 := by
  have : s.1 = p.size := by simp only [Fits] at hf; omega
  constructor
  · show pk t (a + s.1) = 41; rw [this]; exact e.stop
  · exact pk_ge h

theorem sh_next {s : RS} (h : (nextS p s).2.2 = false) : nextS t (shP a s) = ((nextS p s).1, shP a (nextS p s).2) ∧ s.1 < p.size ∧ s.2 = false := by
  unfold nextS at h ⊢
  by_cases hp : pk p s.1 = -1
  · rw [if_pos hp] at h; exact nomatch (show true = false from h)
  · have hlt : s.1 < p.size := by
      have := pk_bd p s.1
      exact pk_some (by omega)
    rw [if_neg hp] at h ⊢
    rw [sh_pk e hlt, if_neg hp]
    exact ⟨rfl, hlt, h⟩
theorem sh_take {c : Int} (hc : 0 ≤ c) (hc41 : c ≠ 41) {s : RS} (hf : Fits p s) : takeS t c (shP a s) = ((takeS p c s).1, shP a (takeS p c s).2) := by
  unfold takeS
  by_cases hlt : s.1 < p.size
  · rw [sh_pk e hlt]
    split <;> rfl
  · obtain ⟨h1, h2⟩ := sh_end e hlt hf
    rw [h1, h2, if_neg (by omega), if_neg (by omega)]
theorem sh_take41 {s : RS} (h : (takeS p 41 s).1 = true) : takeS t 41 (shP a s) = (true, shP a (takeS p 41 s).2) := by
  unfold takeS at h ⊢
  by_cases hp : pk p s.1 = 41
  · have hlt : s.1 < p.size := pk_some (by omega)
    rw [if_pos hp, sh_pk e hlt, if_pos hp]
    rfl
  · rw [if_neg hp] at h; cases h
theorem sh_endS {s : RS} (hf : Fits p s) : endS t (shP a s) = endS p s := by
  unfold endS
  by_cases hlt : s.1 < p.size
  · rw [sh_pk e hlt]
  · obtain ⟨h1, h2⟩ := sh_end e hlt hf
    rw [h1, h2]; rfl
theorem sh_repS {s : RS} (hf : Fits p s) : repS t (shP a s) = repS p s := by
  unfold repS
  by_cases hlt : s.1 < p.size
  · rw [sh_pk e hlt]
  · obtain ⟨h1, h2⟩ := sh_end e hlt hf
    rw [h1, h2]; rfl
theorem sh_mem {s : RS} (h : (memS p s).2.2 = false) : memS t (shP a s) = ((memS p s).1, shP a (memS p s).2) ∧ s.1 < p.size ∧ s.2 = false := by
  unfold memS at h ⊢
  by_cases h92 : (nextS p s).1 = 92
  · rw [if_pos h92] at h ⊢
    obtain ⟨h1, _, h2⟩ := sh_next e h
    obtain ⟨h3, h4, h5⟩ := sh_next e h2
    rw [h3, if_pos h92, h1]
    exact ⟨rfl, h4, h5⟩
  · rw [if_neg h92] at h ⊢
    obtain ⟨h3, h4, h5⟩ := sh_next e h
    rw [h3, if_neg h92]
    exact ⟨rfl, h4, h5⟩
theorem sh_sec {s : RS} (hf : Fits p s) (h : pk p s.1 = 45 → s.1 + 1 < p.size) : secS t (shP a s) = secS p s := by
  unfold secS
  by_cases hlt : s.1 < p.size
  · rw [sh_pk e hlt]
    by_cases h45 : pk p s.1 = 45
    · have := e.byte (s.1 + 1) (h h45)
      rw [show (shP a s).1 + 1 = a + (s.1 + 1) by simp only [shP]; omega, this]
    · have : (pk p s.1 == 45) = false := beq_eq_false_iff_ne.2 h45
      rw [this]; rfl
  · obtain ⟨h1, h2⟩ := sh_end e hlt hf
    rw [h1, h2]; rfl
theorem sh_item {s : RS} (hf : Fits p s) (h : (itemS p s).2.2 = false) (h45 : pk p (memS p s).2.1 = 45 → (memS p s).2.1 + 1 < p.size) :
    itemS t (shP a s) = ((itemS p s).1, shP a (itemS p s).2) ∧ s.2 = false := by
  have hfm := fits_mem hf
  unfold itemS at h ⊢
  simp only [] at h ⊢
  by_cases hlow : (highS p s).1 < (memS p s).1
  · rw [if_pos hlow] at h; exact nomatch (show true = false from h)
  · rw [if_neg hlow] at h ⊢
    unfold highS at h hlow ⊢
    by_cases hs : secS p (memS p s).2 = true
    · rw [if_pos hs] at h hlow
      obtain ⟨h1, _, h2⟩ := sh_mem e h
      have h2' : (memS p s).2.2 = false := h2
      obtain ⟨h3, _, h4⟩ := sh_mem e h2'
      rw [h3]
      simp only []
      rw [sh_sec e hfm h45, if_pos hs, if_pos hs]
      have h1' : memS t ((shP a (memS p s).2).1 + 1, (shP a (memS p s).2).2) = _ := h1
      rw [h1']
      simp only []
      rw [if_neg hlow]
      exact ⟨rfl, h4⟩
    · rw [if_neg hs] at h hlow
      obtain ⟨h3, _, h4⟩ := sh_mem e h
      rw [h3]
      simp only []
      rw [sh_sec e hfm h45, if_neg hs, if_neg hs]
      simp only []
      rw [if_neg hlow]
      exact ⟨rfl, h4⟩
end

theorem itemsF_bad (p : ByteArray) : ∀ (f : Nat) (s : RS) (acc : List (Int × Int)), (itemsF p f s acc).2.2 = false → s.2 = false
  | 0, s, acc, h => h
  | f + 1, s, acc, h => by
    rw [itemsF] at h
    split at h
    · have h1 := itemsF_bad p f _ _ h
      unfold itemS at h1
      simp only [] at h1
      split at h1
      · exact nomatch (show true = false from h1)
      · have hnext : ∀ s : RS, (nextS p s).2.2 = false → s.2 = false := fun s hs => by
          unfold nextS at hs; split at hs
          · exact nomatch (show true = false from hs)
          · exact hs
        have hmem : ∀ s : RS, (memS p s).2.2 = false → s.2 = false := fun s hs => by
          unfold memS at hs; split at hs
          · exact hnext _ (hnext _ hs)
          · exact hnext _ hs
        unfold highS at h1
        split at h1
        · have h2 := hmem _ h1
          exact hmem s h2
        · exact hmem _ h1
    · exact h

section
variable {p t : ByteArray} {a : Nat} (e : Emb p t a)
include e
theorem sh_items : ∀ (f g : Nat) (s : RS) (acc : List (Int × Int)), Fits p s → p.size - s.1 ≤ f → t.size - (a + s.1) ≤ g → (itemsF p f s acc).2.1 < p.size → (itemsF p f s acc).2.2 = false →
    itemsF t g (shP a s) acc = ((itemsF p f s acc).1, shP a (itemsF p f s acc).2)
  | 0, g, s, acc, hf, h1, h2, h3, h4 => by
    simp only [itemsF] at h3
    omega
  | f + 1, 0, s, acc, hf, h1, h2, h3, h4 => by
    have := emb_lt e
    simp only [Fits] at hf
    omega
  | f + 1, g + 1, s, acc, hf, h1, h2, h3, h4 => by
    have hge := itemsF_ge p (f + 1) s acc
    have hlt : s.1 < p.size := by omega
    have hq : itemQ t (shP a s) = itemQ p s := by unfold itemQ; rw [sh_pk e hlt]
    rw [itemsF] at h3 h4 ⊢
    rw [itemsF, hq]
    by_cases hi : itemQ p s = true
    · rw [if_pos hi] at h3 h4
      rw [if_pos hi, if_pos hi]
      have hgt := item_gt hlt
      have hgood := itemsF_bad p f _ _ h4
      have hge2 := itemsF_ge p f (itemS p s).2 (acc ++ [(itemS p s).1])
      have hfi := fits_item hf
      have h45 : pk p (memS p s).2.1 = 45 → (memS p s).2.1 + 1 < p.size := fun h45 => by
        by_cases hs : secS p (memS p s).2 = true
        · simp only [secS, Bool.and_eq_true, bne_iff_ne] at hs
          have := pk_bd p ((memS p s).2.1 + 1)
          exact pk_some (by omega)
        · -- the item ends here, and the sign stands first in the next one
          have hend : (itemS p s).2 = (memS p s).2 := by
            unfold itemS at hgood ⊢
            simp only [] at hgood ⊢
            split
            · rename_i hl; rw [if_pos hl] at hgood; exact nomatch (show true = false from hgood)
            · unfold highS; rw [if_neg hs]
          rw [hend] at h3 hge2 hgt
          have hml : (memS p s).2.1 < p.size := by omega
          obtain ⟨f', rfl⟩ : ∃ f', f = f' + 1 := ⟨f - 1, by omega⟩
          have hq2 : itemQ p (memS p s).2 = true := by
            unfold itemQ; rw [h45]; rfl
          rw [itemsF, if_pos hq2] at h3
          have h5 := item_gt hml
          have h6 := itemsF_ge p f' (itemS p (memS p s).2).2 (acc ++ [(itemS p s).1] ++ [(itemS p (memS p s).2).1])
          omega
      obtain ⟨h5, _⟩ := sh_item e hf hgood h45
      rw [h5]
      have hgt2 : s.1 < (itemS p s).2.1 := hgt
      exact sh_items f g (itemS p s).2 _ hfi (by omega) (by omega) h3 h4
    · rw [if_neg hi, if_neg hi]
theorem sh_dig {s : RS} (h : (digS p s).2.2 = false) : digS t (shP a s) = ((digS p s).1, shP a (digS p s).2) ∧ s.1 < p.size ∧ s.2 = false := by
  unfold digS at h ⊢
  by_cases hd : (nextS p s).1 < 48 ∨ 57 < (nextS p s).1
  · rw [if_pos hd] at h; exact nomatch (show true = false from h)
  · rw [if_neg hd] at h ⊢
    obtain ⟨h1, h2, h3⟩ := sh_next e h
    rw [h1]
    simp only []
    rw [if_neg hd]
    exact ⟨rfl, h2, h3⟩
theorem sh_up {s : RS} (hf : Fits p s) (h : (upS p s).2.2 = false) : upS t (shP a s) = ((upS p s).1, shP a (upS p s).2) ∧ s.2 = false := by
  unfold upS at h ⊢
  by_cases h125 : pk p s.1 = 125
  · have hlt : s.1 < p.size := pk_some (by omega)
    rw [if_pos h125] at h
    rw [sh_pk e hlt, if_pos h125, if_pos h125]
    exact ⟨rfl, h⟩
  · rw [if_neg h125] at h
    obtain ⟨h1, h2, h3⟩ := sh_dig e h
    rw [sh_pk e h2, if_neg h125, if_neg h125, h1]
    exact ⟨rfl, h3⟩
omit e in
theorem takeS_bad {c : Int} {s : RS} (h : (takeS p c s).2.2 = false) : s.2 = false := by
  unfold takeS at h; split at h <;> exact h
theorem sh_most {s : RS} (hf : Fits p s) (h : (mostS p s).2.2 = false) : mostS t (shP a s) = ((mostS p s).1, shP a (mostS p s).2) ∧ (digS p s).2.2 = false := by
  have hfd := fits_dig hf
  unfold mostS at h ⊢
  by_cases hc : (takeS p 44 (digS p s).2).1 = true
  · rw [if_pos hc] at h
    obtain ⟨h1, h2⟩ := sh_up e (fits_take (by omega) hfd) h
    have hd := takeS_bad h2
    obtain ⟨h3, _, _⟩ := sh_dig e hd
    rw [h3]
    simp only []
    rw [sh_take e (by omega) (by omega) hfd]
    simp only []
    rw [if_pos hc, if_pos hc, h1]
    exact ⟨rfl, hd⟩
  · rw [if_neg hc] at h
    have hd := takeS_bad h
    obtain ⟨h3, _, _⟩ := sh_dig e hd
    rw [h3]
    simp only []
    rw [sh_take e (by omega) (by omega) hfd]
    simp only []
    rw [if_neg hc, if_neg hc]
    exact ⟨rfl, hd⟩
theorem sh_braces {s : RS} (hf : Fits p s) (h : (bracesS p s).2.2 = false) : bracesS t (shP a s) = ((bracesS p s).1, shP a (bracesS p s).2) ∧ s.2 = false := by
  have hfm := fits_most hf
  unfold bracesS at h ⊢
  by_cases hc : (takeS p 125 (mostS p s).2).1 = false ∨ ((mostS p s).1 ≠ -1 ∧ (mostS p s).1 < (digS p s).1)
  · rw [if_pos hc] at h; exact nomatch (show true = false from h)
  · rw [if_neg hc] at h
    have hm := takeS_bad h
    obtain ⟨h1, h2⟩ := sh_most e hf hm
    obtain ⟨h3, _, h4⟩ := sh_dig e h2
    rw [h1, h3]
    simp only []
    rw [sh_take e (by omega) (by omega) hfm]
    simp only []
    rw [if_neg hc, if_neg hc]
    exact ⟨rfl, h4⟩
theorem sh_repeat {s : RS} (hf : Fits p s) (h : (repeatS p s).2.2 = false) : repeatS t (shP a s) = ((repeatS p s).1, shP a (repeatS p s).2) ∧ s.2 = false := by
  have hfn := fits_next (t := p) (s := s) hf
  have hn : (nextS p s).2.2 = false := by
    unfold repeatS at h
    repeat' split at h
    · exact h
    · exact h
    · exact h
    · exact (sh_braces e hfn h).2
  obtain ⟨h1, _, h2⟩ := sh_next e hn
  unfold repeatS at h ⊢
  rw [h1]
  simp only []
  by_cases c1 : (nextS p s).1 = 42
  · rw [if_pos c1, if_pos c1]; exact ⟨rfl, h2⟩
  · rw [if_neg c1, if_neg c1]
    rw [if_neg c1] at h
    by_cases c2 : (nextS p s).1 = 43
    · rw [if_pos c2, if_pos c2]; exact ⟨rfl, h2⟩
    · rw [if_neg c2, if_neg c2]
      rw [if_neg c2] at h
      by_cases c3 : (nextS p s).1 = 63
      · rw [if_pos c3, if_pos c3]; exact ⟨rfl, h2⟩
      · rw [if_neg c3, if_neg c3]
        rw [if_neg c3] at h
        exact ⟨(sh_braces e hfn h).1, h2⟩
end

end Go.Proofs.Ytgifhgnccmnbiaa

set_option linter.unusedVariables false
set_option linter.unusedSimpArgs false
namespace Go.Proofs.Ytgifhgnccmnbiaa

/-- A node k places further on in the list. -/
def shN (k : Nat) (n : AN) : AN :=
  { n with left := if n.kind = 4 ∨ n.kind = 5 ∨ n.kind = 6 then n.left + (k : Int) else n.left, right := if n.kind = 4 ∨ n.kind = 5 then n.right + (k : Int) else n.right }
def shL (pre ns : List AN) : List AN := pre ++ ns.map (shN pre.length)
def shSt (a : Nat) (pre : List AN) (st : PS) : PS := (shP a st.1, shL pre st.2)
def shR (a : Nat) (pre : List AN) (r : Nat × PS) : Nat × PS := (pre.length + r.1, shSt a pre r.2)

theorem sh_cap (k : Nat) (n : AN) : capN (shN k n) = shN k (capN n) := rfl
theorem sh_add (a : Nat) (pre : List AN) (n n' : AN) (st : PS) (h : n' = shN pre.length n) : addS n' (shSt a pre st) = shR a pre (addS n st) := by
  subst h
  simp only [addS, shR, shSt, shL, Prod.mk.injEq]
  refine ⟨by simp, trivial, ?_⟩
  rw [List.map_append, List.append_assoc]
  rfl
theorem sh_sizeAt (pre ns : List AN) (i : Nat) : sizeAt (shL pre ns) (pre.length + i) = sizeAt ns i := by
  unfold sizeAt shL
  rw [List.getElem?_append_right (by omega), show pre.length + i - pre.length = i by omega, List.getElem?_map]
  cases ns[i]? <;> rfl
theorem sh_join (a : Nat) (pre : List AN) {kind : Int} (hk : kind = 4 ∨ kind = 5) (l r : Nat) (st : PS) : joinS kind (pre.length + l) (pre.length + r) (shSt a pre st) = shR a pre (joinS kind l r st) := by
  unfold joinS
  refine sh_add a pre _ _ st ?_
  simp only [shN, shSt]
  rw [if_pos (by omega), if_pos hk, sh_sizeAt, sh_sizeAt]
  congr 1
  · simp; omega
  · simp; omega
theorem sh_again (a : Nat) (pre : List AN) (l : Nat) (lm : Int × Int) (st : PS) : againS (pre.length + l) lm (shSt a pre st) = shR a pre (againS l lm st) := by
  unfold againS
  refine sh_add a pre _ _ st ?_
  simp only [shN, shSt]
  rw [if_pos (show ((6 : Int) = 4 ∨ (6 : Int) = 5 ∨ True) from Or.inr (Or.inr trivial)), if_neg (show ¬ ((6 : Int) = 4 ∨ (6 : Int) = 5) by omega), sh_sizeAt]
  congr 1
  simp; omega
theorem sh_leaf (k : Nat) (n : AN) (h : n.kind = 0 ∨ n.kind = 1 ∨ n.kind = 2 ∨ n.kind = 3) : shN k n = n := by
  unfold shN
  rw [if_neg (by omega), if_neg (by omega)]

theorem next_bad {p : ByteArray} {s : RS} (hs : (nextS p s).2.2 = false) : s.2 = false := by
  unfold nextS at hs; split at hs
  · exact nomatch (show true = false from hs)
  · exact hs
theorem list_bad {p : ByteArray} {st : PS} (h : (listS p st).2.1.2 = false) : st.1.2 = false := by
  unfold listS at h
  simp only [addS] at h
  split at h
  · exact nomatch (show true = false from h)
  · exact takeS_bad (itemsF_bad p _ _ _ (takeS_bad h))
theorem plain_bad {p : ByteArray} {c : Int} {st : PS} (h : (plainS p c st).2.1.2 = false) : st.1.2 = false := by
  unfold plainS bytesS addS at h
  repeat' split at h
  all_goals first | exact h | exact next_bad h | exact nomatch (show true = false from h)
theorem repeat_bad {p : ByteArray} {s : RS} (h : (repeatS p s).2.2 = false) : s.2 = false := by
  have hb : ∀ s : RS, (bracesS p s).2.2 = false → s.2 = false := fun s hs => by
    have hd : ∀ s : RS, (digS p s).2.2 = false → s.2 = false := fun s hs => by
      unfold digS at hs; split at hs
      · exact nomatch (show true = false from hs)
      · exact next_bad hs
    unfold bracesS at hs; split at hs
    · exact nomatch (show true = false from hs)
    · have h1 := takeS_bad hs
      unfold mostS at h1; split at h1
      · unfold upS at h1; split at h1
        · exact hd _ (takeS_bad h1)
        · exact hd _ (takeS_bad (hd _ h1))
      · exact hd _ (takeS_bad h1)
  unfold repeatS at h
  repeat' split at h
  · exact next_bad h
  · exact next_bad h
  · exact next_bad h
  · exact next_bad (hb _ h)
theorem close_bad {p : ByteArray} {r : Nat × PS} (h : (closeS p r).2.1.2 = false) : (takeS p 41 r.2.1).1 = true ∧ r.2.1.2 = false := by
  unfold closeS at h
  simp only [] at h
  split at h
  · rename_i h1; exact ⟨h1, takeS_bad h⟩
  · exact nomatch (show true = false from h)

/-- What has failed stays failed. -/
theorem D.bad {p : ByteArray} {tag cur : Nat} {st : PS} {r : Nat × PS} (h : D p tag cur st r) : r.2.1.2 = false → st.1.2 = false := by
  induction h with
  | pattern _ _ a b => exact fun h => a (b h)
  | empty he => exact fun h => h
  | branch he _ _ a b => exact fun h => a (b h)
  | piece _ _ a b => exact fun h => a (b h)
  | group he _ a => exact fun h => next_bad (a (close_bad h).2)
  | list he => exact fun h => next_bad (list_bad (st := (_, _)) h)
  | plain h1 h2 => exact fun h => next_bad (plain_bad (st := (_, _)) h)
  | or he _ _ a b => exact fun h => takeS_bad (a (b h))
  | orEnd he => exact fun h => h
  | and he _ _ a b => exact fun h => a (b h)
  | andEnd he => exact fun h => h
  | rep he _ a => exact fun h => repeat_bad (a h)
  | repEnd he => exact fun h => h
theorem D.cur {p : ByteArray} {tag cur : Nat} {st : PS} {r : Nat × PS} (h : D p tag cur st r) (ht : tag < 4) (cur' : Nat) : D p tag cur' st r := by
  cases h with
  | pattern a b => exact D.pattern a b
  | empty he => exact D.empty he
  | branch he a b => exact D.branch he a b
  | piece a b => exact D.piece a b
  | group he a => exact D.group he a
  | list he => exact D.list he
  | plain h1 h2 => exact D.plain h1 h2
  | or => omega
  | orEnd => omega
  | and => omega
  | andEnd => omega
  | rep => omega
  | repEnd => omega

theorem listS_eq {t : ByteArray} {st : PS} {x : Bool × RS} {i : List (Int × Int) × RS} {c : Bool × RS} (h1 : takeS t 94 st.1 = x) (h2 : itemsS t x.2 [] = i) (h3 : takeS t 93 i.2 = c) :
    listS t st = addS { kind := 1, its := i.1, neg := x.1, size := 1 } (if c.1 = false ∨ i.1.length = 0 then failS t else c.2, st.2) := by
  subst h1; subst h2; subst h3; rfl
theorem closeS_eq {t : ByteArray} {r : Nat × PS} {c : Bool × RS} (h : takeS t 41 r.2.1 = c) : closeS t r = (r.1, (if c.1 = true then c.2 else failS t, r.2.2)) := by
  subst h; rfl
theorem take_true {p : ByteArray} {c : Int} {s : RS} (h : (takeS p c s).1 = true) : pk p s.1 = c := by
  unfold takeS at h
  split at h
  · assumption
  · cases h

section
variable {p t : ByteArray} {a : Nat} (e : Emb p t a) (pre : List AN)
include e
theorem sh_list {st : PS} (hf : Fits p st.1) (h : (listS p st).2.1.2 = false) : listS t (shSt a pre st) = shR a pre (listS p st) := by
  have hf1 := fits_take (t := p) (c := 94) (by omega) hf
  have ht1 := sh_take e (c := 94) (by omega) (by omega) hf
  rw [listS_eq (t := p) (st := st) rfl rfl rfl] at h
  simp only [addS] at h
  by_cases hc : (takeS p 93 (itemsS p (takeS p 94 st.1).2 []).2).1 = false ∨ (itemsS p (takeS p 94 st.1).2 []).1.length = 0
  · rw [if_pos hc] at h; exact nomatch (show true = false from h)
  · rw [if_neg hc] at h
    have hc1 : (takeS p 93 (itemsS p (takeS p 94 st.1).2 []).2).1 = true := by
      cases hx : (takeS p 93 (itemsS p (takeS p 94 st.1).2 []).2).1 with
      | true => rfl
      | false => exact absurd (Or.inl hx) hc
    have hin : (itemsS p (takeS p 94 st.1).2 []).2.1 < p.size := pk_some (by rw [take_true hc1]; omega)
    have hgood := takeS_bad h
    have hit : itemsS t (shP a (takeS p 94 st.1).2) [] = ((itemsS p (takeS p 94 st.1).2 []).1, shP a (itemsS p (takeS p 94 st.1).2 []).2) := by
      unfold itemsS at hin hgood ⊢
      exact sh_items e _ _ _ _ hf1 (Nat.le_refl _) (Nat.le_refl _) hin hgood
    have hfi : Fits p (itemsS p (takeS p 94 st.1).2 []).2 := Nat.le_of_lt hin
    have ht2 := sh_take e (c := 93) (by omega) (by omega) hfi
    have hL : (listS t (shSt a pre st)) = addS { kind := 1, its := (itemsS p (takeS p 94 st.1).2 []).1, neg := (takeS p 94 st.1).1, size := 1 } (if (takeS p 93 (itemsS p (takeS p 94 st.1).2 []).2).1 = false ∨ (itemsS p (takeS p 94 st.1).2 []).1.length = 0 then failS t else shP a (takeS p 93 (itemsS p (takeS p 94 st.1).2 []).2).2, shL pre st.2) :=
      listS_eq (st := shSt a pre st) ht1 hit ht2
    have hR := listS_eq (t := p) (st := st) rfl rfl rfl
    rw [hL, hR, if_neg hc, if_neg hc]
    exact sh_add a pre _ _ ((takeS p 93 (itemsS p (takeS p 94 st.1).2 []).2).2, st.2) (sh_leaf _ _ (Or.inr (Or.inl rfl))).symm
theorem sh_plain {c : Int} {st : PS} (h : (plainS p c st).2.1.2 = false) : plainS t c (shSt a pre st) = shR a pre (plainS p c st) := by
  unfold plainS at h ⊢
  by_cases c1 : c = 46
  · rw [if_pos c1, if_pos c1]; exact sh_add a pre _ _ st (sh_leaf _ _ (Or.inr (Or.inl rfl))).symm
  rw [if_neg c1] at h; rw [if_neg c1, if_neg c1]
  by_cases c2 : c = 94
  · rw [if_pos c2, if_pos c2]; exact sh_add a pre _ _ st (sh_leaf _ _ (Or.inr (Or.inr (Or.inl rfl)))).symm
  rw [if_neg c2] at h; rw [if_neg c2, if_neg c2]
  by_cases c3 : c = 36
  · rw [if_pos c3, if_pos c3]; exact sh_add a pre _ _ st (sh_leaf _ _ (Or.inr (Or.inr (Or.inr rfl)))).symm
  rw [if_neg c3] at h; rw [if_neg c3, if_neg c3]
  by_cases c4 : c = 92
  · rw [if_pos c4] at h
    rw [if_pos c4, if_pos c4]
    have hn : (nextS p st.1).2.2 = false := h
    obtain ⟨h1, _, _⟩ := sh_next e hn
    simp only [shSt]
    rw [h1]
    exact sh_add a pre _ _ ((nextS p st.1).2, st.2) (sh_leaf _ _ (Or.inr (Or.inl rfl))).symm
  rw [if_neg c4] at h; rw [if_neg c4, if_neg c4]
  by_cases c5 : c = 41 ∨ c = 124 ∨ c = 42 ∨ c = 43 ∨ c = 63 ∨ c = 123
  · rw [if_pos c5] at h; exact nomatch (show true = false from h)
  · rw [if_neg c5, if_neg c5]; exact sh_add a pre _ _ st (sh_leaf _ _ (Or.inr (Or.inl rfl))).symm

/-- THE SAME DERIVATION, FURTHER ON. -/
theorem D.shift {tag cur : Nat} {st : PS} {r : Nat × PS} (h : D p tag cur st r) : Fits p st.1 → r.2.1.2 = false → D t tag (pre.length + cur) (shSt a pre st) (shR a pre r) := by
  induction h with
  | pattern d1 d2 x y =>
    intro hf hg
    have f1 := (d1.fw hf).fit
    exact D.pattern ((x hf (d2.bad hg)).cur (by omega) 0) (y f1 hg)
  | @empty cur st he =>
    intro hf hg
    rw [← sh_add a pre { kind := 0, size := 1 } _ st (sh_leaf _ _ (Or.inl rfl)).symm]
    exact D.empty (by rw [← he]; exact sh_endS e hf)
  | @branch cur st r1 r he d1 d2 x y =>
    intro hf hg
    have f1 := (d1.fw hf).fit
    exact D.branch (by rw [← he]; exact sh_endS e hf) ((x hf (d2.bad hg)).cur (by omega) 0) (y f1 hg)
  | piece d1 d2 x y =>
    intro hf hg
    have f1 := (d1.fw hf).fit
    exact D.piece ((x hf (d2.bad hg)).cur (by omega) 0) (y f1 hg)
  | @group cur st r1 he d1 x =>
    intro hf hg
    obtain ⟨h1, h2⟩ := close_bad hg
    have hb := d1.bad h2
    obtain ⟨h3, _, _⟩ := sh_next e (s := st.1) hb
    have h4 : closeS t (shR a pre r1) = shR a pre (closeS p r1) := by
      have hc := closeS_eq (t := t) (r := shR a pre r1) (sh_take41 e h1)
      have hd := closeS_eq (t := p) (r := r1) rfl
      rw [hc, hd, h1]
      rfl
    rw [← h4]
    refine D.group (by show (nextS t (shP a st.1)).1 = 40; rw [h3]; exact he) ?_
    have h5 := (x (fits_next hf) h2).cur (by omega) 0
    show D t 0 0 ((nextS t (shP a st.1)).2, _) _
    rw [h3]
    exact h5
  | @list cur st he =>
    intro hf hg
    have hb := list_bad (st := ((nextS p st.1).2, st.2)) hg
    obtain ⟨h3, _, _⟩ := sh_next e (s := st.1) hb
    rw [← sh_list e pre (st := ((nextS p st.1).2, st.2)) (fits_next hf) hg]
    have h6 : shSt a pre ((nextS p st.1).2, st.2) = ((nextS t (shSt a pre st).1).2, (shSt a pre st).2) := by
      show _ = ((nextS t (shP a st.1)).2, _); rw [h3]; rfl
    rw [h6]
    exact D.list (by show (nextS t (shP a st.1)).1 = 91; rw [h3]; exact he)
  | @plain cur st h1 h2 =>
    intro hf hg
    have hb := plain_bad (st := ((nextS p st.1).2, st.2)) hg
    obtain ⟨h3, _, _⟩ := sh_next e (s := st.1) hb
    rw [← sh_plain e pre (st := ((nextS p st.1).2, st.2)) hg]
    have h6 : shSt a pre ((nextS p st.1).2, st.2) = ((nextS t (shSt a pre st).1).2, (shSt a pre st).2) := by
      show _ = ((nextS t (shP a st.1)).2, _); rw [h3]; rfl
    have h7 : (nextS p st.1).1 = (nextS t (shSt a pre st).1).1 := by show _ = (nextS t (shP a st.1)).1; rw [h3]
    rw [h6, h7]
    exact D.plain (by rw [← h7]; exact h1) (by rw [← h7]; exact h2)
  | @or cur st r1 r he d1 d2 x y =>
    intro hf hg
    have hft := fits_take (t := p) (c := 124) (by omega) hf
    have f1 := (d1.fw hft).fit
    have h3 := sh_take e (c := 124) (by omega) (by omega) hf
    have hx := (x hft (d2.bad hg)).cur (by omega) 0
    have hy := y f1 hg
    have hj := sh_join a pre (kind := 5) (Or.inr rfl) cur r1.1 r1.2
    refine D.or (r1 := shR a pre r1) (by show (takeS t 124 (shP a st.1)).1 = true; rw [h3]; exact he) ?_ ?_
    · show D t 1 0 ((takeS t 124 (shP a st.1)).2, _) _
      rw [h3]; exact hx
    · show D t 4 (joinS 5 (pre.length + cur) (pre.length + r1.1) (shSt a pre r1.2)).1 (joinS 5 (pre.length + cur) (pre.length + r1.1) (shSt a pre r1.2)).2 _
      rw [hj]; exact hy
  | @orEnd cur st he =>
    intro hf hg
    have h3 := sh_take e (c := 124) (by omega) (by omega) hf
    exact D.orEnd (by show (takeS t 124 (shP a st.1)).1 = false; rw [h3]; exact he)
  | @and cur st r1 r he d1 d2 x y =>
    intro hf hg
    have f1 := (d1.fw hf).fit
    have hx := (x hf (d2.bad hg)).cur (by omega) 0
    have hy := y f1 hg
    have hj := sh_join a pre (kind := 4) (Or.inl rfl) cur r1.1 r1.2
    refine D.and (r1 := shR a pre r1) (by rw [← he]; exact sh_endS e hf) hx ?_
    show D t 5 (joinS 4 (pre.length + cur) (pre.length + r1.1) (shSt a pre r1.2)).1 (joinS 4 (pre.length + cur) (pre.length + r1.1) (shSt a pre r1.2)).2 _
    rw [hj]; exact hy
  | @andEnd cur st he =>
    intro hf hg
    exact D.andEnd (by rw [← he]; exact sh_endS e hf)
  | @rep cur st r he d x =>
    intro hf hg
    have hb := d.bad hg
    obtain ⟨h3, _⟩ := sh_repeat e hf hb
    have hx := x (fits_repeat hf) hg
    have hj := sh_again a pre cur (repeatS p st.1).1 ((repeatS p st.1).2, st.2)
    have h6 : shSt a pre ((repeatS p st.1).2, st.2) = ((repeatS t (shSt a pre st).1).2, (shSt a pre st).2) := by
      show _ = ((repeatS t (shP a st.1)).2, _); rw [h3]; rfl
    have h7 : (repeatS p st.1).1 = (repeatS t (shSt a pre st).1).1 := by show _ = (repeatS t (shP a st.1)).1; rw [h3]
    refine D.rep (by rw [← he]; exact sh_repS e hf) ?_
    rw [← h6, ← h7, hj]
    exact hx
  | @repEnd cur st he =>
    intro hf hg
    exact D.repEnd (by rw [← he]; exact sh_repS e hf)
end

end Go.Proofs.Ytgifhgnccmnbiaa

set_option linter.unusedVariables false
set_option linter.unusedSimpArgs false
namespace Go.Proofs.Ytgifhgnccmnbiaa

/-- So many times, one behind the other. -/
def PowM (n : Nat) (R : Nat → Nat → Prop) : Nat → Nat → Nat → Prop
  | 0, i, j => i = j ∧ i ≤ n
  | c + 1, i, j => ∃ m, PowM n R c i m ∧ R m j
theorem PowM.congr {n : Nat} {R R' : Nat → Nat → Prop} (h : ∀ i j, R i j ↔ R' i j) : ∀ c i j, PowM n R c i j ↔ PowM n R' c i j
  | 0, i, j => Iff.rfl
  | c + 1, i, j => by
    simp only [PowM]
    constructor
    · rintro ⟨m, h1, h2⟩; exact ⟨m, (PowM.congr h c i m).1 h1, (h m j).1 h2⟩
    · rintro ⟨m, h1, h2⟩; exact ⟨m, (PowM.congr h c i m).2 h1, (h m j).2 h2⟩

section
variable {ns : List AN} {fold : Bool} {t : ByteArray} {k : Nat} {n : AN} {i j : Nat}
theorem Mat.le (h : Mat ns fold t k i j) : i ≤ t.size ∧ j ≤ t.size ∧ i ≤ j := by
  obtain ⟨u, _, h⟩ := h; exact h.le
theorem Mat.zero (hn : ns[k]? = some n) (hk : n.kind = 0) : Mat ns fold t k i j ↔ i = j ∧ i ≤ t.size := by
  constructor
  · rintro ⟨u, h1, h2⟩
    have := (W.zero hn hk).1 h1
    subst this; exact h2
  · rintro h; exact ⟨[], (W.zero hn hk).2 rfl, h⟩
theorem Mat.one (hn : ns[k]? = some n) (hk : n.kind = 1 ∨ n.kind = 2 ∨ n.kind = 3) : Mat ns fold t k i j ↔ Go1 ns fold t k i j := by
  constructor
  · rintro ⟨u, h1, h2⟩
    have := (W.one hn hk).1 h1
    subst this
    obtain ⟨m, h3, rfl, _⟩ := h2
    exact h3
  · intro h
    refine ⟨[k], (W.one hn hk).2 rfl, j, h, rfl, ?_⟩
    obtain ⟨n', _, ⟨_, rfl, h3, _⟩ | ⟨_, rfl, rfl⟩ | ⟨_, rfl, rfl⟩⟩ := h <;> omega
theorem Mat.two (hn : ns[k]? = some n) (hk : n.kind = 4) {l r : Nat} (hl : n.left = (l : Int)) (hr : n.right = (r : Int)) : Mat ns fold t k i j ↔ ∃ m, Mat ns fold t l i m ∧ Mat ns fold t r m j := by
  constructor
  · rintro ⟨u, h1, h2⟩
    obtain ⟨x, y, rfl, h3, h4⟩ := (W.two hn hk hl hr).1 h1
    obtain ⟨m, h5, h6⟩ := Tr.app.1 h2
    exact ⟨m, ⟨x, h3, h5⟩, ⟨y, h4, h6⟩⟩
  · rintro ⟨m, ⟨x, h3, h5⟩, ⟨y, h4, h6⟩⟩
    exact ⟨x ++ y, (W.two hn hk hl hr).2 ⟨x, y, rfl, h3, h4⟩, Tr.app.2 ⟨m, h5, h6⟩⟩
theorem Mat.alt (hn : ns[k]? = some n) (hk : n.kind = 5) {l r : Nat} (hl : n.left = (l : Int)) (hr : n.right = (r : Int)) : Mat ns fold t k i j ↔ Mat ns fold t l i j ∨ Mat ns fold t r i j := by
  constructor
  · rintro ⟨u, h1, h2⟩
    rcases (W.alt hn hk hl hr).1 h1 with h | h
    · exact Or.inl ⟨u, h, h2⟩
    · exact Or.inr ⟨u, h, h2⟩
  · rintro (⟨u, h1, h2⟩ | ⟨u, h1, h2⟩)
    · exact ⟨u, (W.alt hn hk hl hr).2 (Or.inl h1), h2⟩
    · exact ⟨u, (W.alt hn hk hl hr).2 (Or.inr h1), h2⟩
theorem pow_many (l : Nat) : ∀ c i j, (∃ u, Many (W ns l) c u ∧ Tr ns fold t u i j) ↔ PowM t.size (Mat ns fold t l) c i j
  | 0, i, j => by
    simp only [PowM]
    constructor
    · rintro ⟨u, h1, h2⟩
      have := (many_zero _ _).1 h1
      subst this; exact h2
    · intro h; exact ⟨[], (many_zero _ _).2 rfl, h⟩
  | c + 1, i, j => by
    simp only [PowM]
    constructor
    · rintro ⟨u, h1, h2⟩
      obtain ⟨x, y, rfl, h3, h4⟩ := (many_succ _ _ _).1 h1
      obtain ⟨m, h5, h6⟩ := Tr.app.1 h2
      exact ⟨m, (pow_many l c i m).1 ⟨x, h3, h5⟩, ⟨y, h4, h6⟩⟩
    · rintro ⟨m, h1, ⟨y, h4, h6⟩⟩
      obtain ⟨x, h3, h5⟩ := (pow_many l c i m).2 h1
      exact ⟨x ++ y, (many_succ _ _ _).2 ⟨x, y, rfl, h3, h4⟩, Tr.app.2 ⟨m, h5, h6⟩⟩
theorem Mat.many (hn : ns[k]? = some n) (hk : n.kind = 6) {l : Nat} (hl : n.left = (l : Int)) : Mat ns fold t k i j ↔ ∃ c, n.least ≤ ((c : Nat) : Int) ∧ (n.most = -1 ∨ (c : Int) ≤ n.most) ∧ PowM t.size (Mat ns fold t l) c i j := by
  constructor
  · rintro ⟨u, h1, h2⟩
    obtain ⟨c, h3, h4, h5⟩ := (W.many hn hk hl).1 h1
    exact ⟨c, h3, h4, (pow_many l c i j).1 ⟨u, h5, h2⟩⟩
  · rintro ⟨c, h3, h4, h5⟩
    obtain ⟨u, h6, h7⟩ := (pow_many l c i j).2 h5
    exact ⟨u, (W.many hn hk hl).2 ⟨c, h3, h4, h6⟩, h7⟩
end

/-- The list ns stands in ms, k places further on. -/
def In (ns ms : List AN) (k : Nat) : Prop := ∀ i n, ns[i]? = some n → ms[k + i]? = some (shN k n)
theorem in_shL (pre ns more : List AN) : In ns (shL pre ns ++ more) pre.length := fun i n hn => by
  have hi := (List.getElem?_eq_some_iff.1 hn).1
  unfold shL
  rw [List.getElem?_append_left (by simp; omega), List.getElem?_append_right (by omega), show pre.length + i - pre.length = i by omega, List.getElem?_map, hn]
  rfl
theorem go_emb {ns ms : List AN} {k : Nat} (he : In ns ms k) {fold : Bool} {t : ByteArray} {b : Nat} (hb : b < ns.length) (i j : Nat) : Go1 ms fold t (k + b) i j ↔ Go1 ns fold t b i j := by
  obtain ⟨n, hn⟩ : ∃ n, ns[b]? = some n := ⟨_, List.getElem?_eq_getElem hb⟩
  have hm := he b n hn
  unfold Go1
  rw [hn, hm]
  simp only [Option.some.injEq, exists_eq_left']
  exact Iff.rfl
theorem Mat.emb {ns ms : List AN} {k : Nat} (hok : NodesOk ns) (he : In ns ms k) (fold : Bool) (t : ByteArray) : ∀ m b, b < m → b < ns.length → ∀ i j, Mat ms fold t (k + b) i j ↔ Mat ns fold t b i j
  | 0, _, h, _, _, _ => by omega
  | m + 1, b, hbm, hb, i, j => by
    obtain ⟨n, hn⟩ : ∃ n, ns[b]? = some n := ⟨_, List.getElem?_eq_getElem hb⟩
    have hm := he b n hn
    obtain ⟨_, _, _, h4⟩ := hok b n hn
    have hkind : (shN k n).kind = n.kind := rfl
    rcases h4 with ⟨hk, _⟩ | ⟨hk, l, r, hlq, hrq, hl, hr, _⟩ | ⟨hk, l, hlq, hl, hr, _⟩
    · by_cases h0 : n.kind = 0
      · rw [Mat.zero hm h0, Mat.zero hn h0]
      · rw [Mat.one hm (by rw [hkind]; omega), Mat.one hn (by omega)]
        exact go_emb he hb i j
    · have hl2 : (shN k n).left = ((k + l : Nat) : Int) := by simp only [shN]; rw [if_pos (by omega), hl]; omega
      have hr2 : (shN k n).right = ((k + r : Nat) : Int) := by simp only [shN]; rw [if_pos hk, hr]; omega
      have il := fun i j => Mat.emb hok he fold t m l (by omega) (by omega) i j
      have ir := fun i j => Mat.emb hok he fold t m r (by omega) (by omega) i j
      rcases hk with hk | hk
      · rw [Mat.two hm hk hl2 hr2, Mat.two hn hk hl hr]
        simp only [il, ir]
      · rw [Mat.alt hm hk hl2 hr2, Mat.alt hn hk hl hr]
        simp only [il, ir]
    · have hl2 : (shN k n).left = ((k + l : Nat) : Int) := by simp only [shN]; rw [if_pos (by omega), hl]; omega
      have il := fun i j => Mat.emb hok he fold t m l (by omega) (by omega) i j
      rw [Mat.many hm hk hl2, Mat.many hn hk hl]
      constructor
      · rintro ⟨c, h1, h2, h3⟩; exact ⟨c, h1, h2, (PowM.congr il c i j).1 h3⟩
      · rintro ⟨c, h1, h2, h3⟩; exact ⟨c, h1, h2, (PowM.congr il c i j).2 h3⟩

end Go.Proofs.Ytgifhgnccmnbiaa

set_option linter.unusedVariables false
set_option linter.unusedSimpArgs false
namespace Go.Proofs.Ytgifhgnccmnbiaa

/-- Both have failed, or both stand at one place. -/
def Sync (t : ByteArray) (a b : RS) : Prop := (a = (t.size, true) ∧ b.2 = true) ∨ (a = b ∧ a.2 = false)

theorem next_lt {t : ByteArray} {s : RS} (h : s.1 < t.size) : nextS t s = (pk t s.1, (s.1 + 1, s.2)) := by
  unfold nextS; rw [if_neg (by rw [pk_none]; omega)]
theorem next_end {t : ByteArray} {s : RS} (h : ¬ s.1 < t.size) : nextS t s = (0, failS t) := by
  unfold nextS; rw [if_pos (by rw [pk_none]; exact h)]
theorem tk_lt {t : ByteArray} {s : RS} (h : s.1 < t.size) : tkS t s = (pk t s.1, (s.1 + 1, s.2)) := if_pos h
theorem tk_end {t : ByteArray} {s : RS} (h : ¬ s.1 < t.size) : tkS t s = (0, (s.1, true)) := if_neg h
theorem take_hit {t : ByteArray} {s : RS} {c : Int} (h : pk t s.1 = c) : takeS t c s = (true, (s.1 + 1, s.2)) := if_pos h
theorem take_miss {t : ByteArray} {s : RS} {c : Int} (h : ¬ pk t s.1 = c) : takeS t c s = (false, s) := if_neg h
theorem st1 {t : ByteArray} {s : RS} {c : UInt8} : stB t s [c] = (pk t s.1 == (c.toNat : Int)) := by simp [stB]

/-- A member. -/
theorem sync_mem {t : ByteArray} {p : Nat} (hp : p < t.size) (h93 : pk t p ≠ 93) :
    (memS t (p, false) = memR t (p, false) ∧ (memS t (p, false)).2.2 = false ∧ (memS t (p, false)).2.1 ≤ t.size) ∨
    ((memS t (p, false)) = (0, failS t) ∧ (memR t (p, false)).2 = (t.size, true) ∧ (memR t (p, false)).1 = 0) := by
  have e93 : stB t (p, false) [93] = false := by rw [st1]; simpa using h93
  have eR : memR t (p, false) = tkS t (takeS t 92 (p, false)).2 := by unfold memR; rw [if_neg (by rw [e93]; decide)]
  have eN := next_lt (s := (p, false)) hp
  rw [eR]
  unfold memS
  rw [eN]
  simp only []
  by_cases h : pk t p = 92
  · rw [if_pos h, take_hit (s := (p, false)) h]
    simp only []
    by_cases hp2 : p + 1 < t.size
    · left
      rw [next_lt (s := (p + 1, false)) hp2, tk_lt (s := (p + 1, false)) hp2]
      exact ⟨rfl, rfl, hp2⟩
    · right
      rw [next_end (s := (p + 1, false)) hp2, tk_end (s := (p + 1, false)) hp2]
      have : p + 1 = t.size := by omega
      exact ⟨rfl, by simp [this], rfl⟩
  · left
    rw [if_neg h, take_miss (s := (p, false)) h, tk_lt (s := (p, false)) hp]
    exact ⟨rfl, rfl, hp⟩

theorem sec_end {t : ByteArray} {b : Bool} : secS t (t.size, b) = false := by
  unfold secS; rw [pk_ge (p := t.size) (by omega)]; rfl

/-- An item. -/
theorem sync_item {t : ByteArray} {p : Nat} {f : Nat → Bool} (hp : p < t.size) (h93 : pk t p ≠ 93) : Sync t (itemS t (p, false)).2 (itemR t (p, false) f).1 := by
  rcases sync_mem hp h93 with ⟨h1, h2, h3⟩ | ⟨h1, h2, h4⟩
  · obtain ⟨c, s1, hm⟩ : ∃ c s1, memS t (p, false) = (c, s1) := ⟨_, _, rfl⟩
    rw [hm] at h1 h2 h3
    obtain ⟨p1, b1⟩ := s1
    simp only [] at h2 h3
    subst h2
    by_cases hs : secS t (p1, false) = true
    · have hs2 := hs
      simp only [secS, Bool.and_eq_true, beq_iff_eq, bne_iff_ne] at hs2
      obtain ⟨⟨_, g1⟩, g2⟩ := hs2
      have hp1 : p1 + 1 < t.size := by rw [Ne, pk_none] at g1; omega
      have eH : highS t (p, false) = memS t (p1 + 1, false) := by unfold highS; rw [hm]; exact if_pos hs
      have eT : toR t (p, false) = memR t (p1 + 1, false) := by
        unfold toR; rw [← h1]; simp only []; rw [if_pos hs, tk_lt (s := (p1, false)) (by omega)]
      have eI : (itemS t (p, false)).2 = if (highS t (p, false)).1 < c then failS t else (highS t (p, false)).2 := by unfold itemS; rw [hm]
      have eJ : (itemR t (p, false) f).1 = if (toR t (p, false)).1 < c then markS (toR t (p, false)).2 else (toR t (p, false)).2 := by unfold itemR; rw [← h1]
      rw [eI, eJ, eH, eT]
      rcases sync_mem hp1 g2 with ⟨k1, k2, k3⟩ | ⟨k1, k2, k4⟩
      · rw [← k1]
        by_cases hl : (memS t (p1 + 1, false)).1 < c
        · rw [if_pos hl, if_pos hl]; left; exact ⟨rfl, rfl⟩
        · rw [if_neg hl, if_neg hl]; right; exact ⟨rfl, k2⟩
      · left
        rw [k1]
        refine ⟨by simp only []; split <;> rfl, ?_⟩
        split
        · rfl
        · rw [k2]
    · have eH : highS t (p, false) = memS t (p, false) := by unfold highS; rw [hm]; exact if_neg hs
      have eT : toR t (p, false) = memR t (p, false) := by unfold toR; rw [← h1]; simp only []; rw [if_neg hs]
      have eI : (itemS t (p, false)).2 = (p1, false) := by unfold itemS; rw [eH, hm]; simp
      have eJ : (itemR t (p, false) f).1 = (p1, false) := by unfold itemR; rw [eT, ← h1]; simp
      rw [eI, eJ]; right; exact ⟨rfl, rfl⟩
  · left
    have eH : highS t (p, false) = memS t (p, false) := by unfold highS; rw [h1]; exact if_neg (by simp only [failS]; rw [sec_end]; decide)
    have eT : toR t (p, false) = memR t (p, false) := by unfold toR; rw [h2, sec_end]; simp
    refine ⟨?_, ?_⟩
    · unfold itemS; rw [eH, h1]; simp [failS]
    · unfold itemR; rw [eT]; simp [h2]

theorem itemR_noMem {t : ByteArray} {p : Nat} {f : Nat → Bool} (h : ¬ p < t.size ∨ pk t p = 93) : (itemR t (p, false) f).1.2 = true := by
  have hm : (memR t (p, false)).2.2 = true := by
    unfold memR
    rcases h with h | h
    · have e93 : stB t (p, false) [93] = false := by rw [st1, pk_ge h]; decide
      rw [if_neg (by rw [e93]; decide), take_miss (s := (p, false)) (by rw [pk_ge h]; decide), tk_end (s := (p, false)) h]
    · have e93 : stB t (p, false) [93] = true := by rw [st1, h]; decide
      rw [if_pos e93]
      exact tk_bad (take_bad rfl)
  have ht := toR_bad hm
  unfold itemR
  simp only []
  split
  · rfl
  · exact ht

theorem itemsR_noMem {t : ByteArray} {p : Nat} {f : Nat → Bool} (hf : p ≤ t.size) (h : ¬ p < t.size ∨ pk t p = 93) : (itemsR t (p, false) f).1.2 = true := by
  have h1 := itemR_noMem (f := f) h
  cases hc : (takeS t 93 (itemR t (p, false) f).1).1 with
  | true => rw [itemsR_end rfl hc]; exact take_bad h1
  | false => rw [itemsR_on (s := (p, false)) hf rfl hc, itemsR_bad (take_bad h1)]; exact take_bad h1

/-- What a list comes to on the one side. -/
def listOut (t : ByteArray) (I : List (Int × Int) × RS) : RS := if (takeS t 93 I.2).1 = false ∨ I.1.length = 0 then failS t else (takeS t 93 I.2).2

theorem itemQ_iff {t : ByteArray} {p : Nat} {b : Bool} : itemQ t (p, b) = true ↔ p < t.size ∧ pk t p ≠ 93 := by
  simp only [itemQ, Bool.and_eq_true, bne_iff_ne]
  constructor
  · intro h; exact ⟨by have := h.1; rw [Ne, pk_none] at this; omega, h.2⟩
  · intro h; exact ⟨by rw [Ne, pk_none]; omega, h.2⟩

theorem sync_items {t : ByteArray} : ∀ (n p : Nat) (acc : List (Int × Int)) (f : Nat → Bool), t.size - p ≤ n → p ≤ t.size → (acc = [] ∨ pk t p ≠ 93) →
    Sync t (listOut t (itemsS t (p, false) acc)) (itemsR t (p, false) f).1
  | n, p, acc, f, hn, hf, hacc => by
    by_cases hq : itemQ t (p, false) = true
    · obtain ⟨hp, h93⟩ := itemQ_iff.1 hq
      rw [itemsS_on hq]
      have hgt := item_gt (t := t) (s := (p, false)) hp
      rcases sync_item (f := f) hp h93 with ⟨h1, h2⟩ | ⟨h1, h2⟩
      · left
        refine ⟨?_, ?_⟩
        · rw [h1, itemsS_off (by cases h : itemQ t (t.size, true) with | false => rfl | true => have := (itemQ_iff.1 h).1; omega)]
          unfold listOut
          rw [take_miss (s := (t.size, true)) (by rw [pk_ge (by omega)]; decide)]
          exact if_pos (Or.inl rfl)
        · cases hc : (takeS t 93 (itemR t (p, false) f).1).1 with
          | true => rw [itemsR_end rfl hc]; exact take_bad h2
          | false => rw [itemsR_on (s := (p, false)) hf rfl hc, itemsR_bad (take_bad h2)]; exact take_bad h2
      · obtain ⟨⟨p1, b1⟩, hs1⟩ : ∃ s1, (itemS t (p, false)).2 = s1 := ⟨_, rfl⟩
        rw [hs1] at h1 h2 hgt
        simp only [] at h2 hgt
        subst h2
        have hf1 := fits_item (t := t) (s := (p, false)) hf
        rw [hs1] at hf1
        simp only [Fits] at hf1
        rw [hs1]
        by_cases h931 : pk t p1 = 93
        · right
          have hc : takeS t 93 (itemR t (p, false) f).1 = (true, (p1 + 1, false)) := by rw [← h1]; exact take_hit (s := (p1, false)) h931
          rw [itemsR_end rfl (by rw [hc]), hc, itemsS_off (by cases h : itemQ t (p1, false) with | false => rfl | true => exact absurd h931 (itemQ_iff.1 h).2)]
          unfold listOut
          rw [take_hit (s := (p1, false)) h931]
          simp
        · have hc : takeS t 93 (itemR t (p, false) f).1 = (false, (p1, false)) := by rw [← h1]; exact take_miss (s := (p1, false)) h931
          rw [itemsR_on (s := (p, false)) hf rfl (by rw [hc]), hc]
          match n, hn with
          | 0, hn => omega
          | n + 1, hn => exact sync_items n p1 _ _ (by omega) hf1 (Or.inr h931)
    · have hno : ¬ p < t.size ∨ pk t p = 93 := by
        by_cases hp : p < t.size
        · right
          by_cases h93 : pk t p = 93
          · exact h93
          · exact absurd (itemQ_iff.2 ⟨hp, h93⟩) hq
        · exact Or.inl hp
      left
      refine ⟨?_, itemsR_noMem hf hno⟩
      rw [itemsS_off (by simpa using hq)]
      unfold listOut
      rcases hacc with rfl | h93
      · exact if_pos (Or.inr rfl)
      · rw [take_miss (s := (p, false)) h93]
        exact if_pos (Or.inl rfl)

/-- A digit. -/
theorem dig_good {t : ByteArray} {p : Nat} (hp : p < t.size) (h1 : 48 ≤ pk t p) (h2 : pk t p ≤ 57) : digS t (p, false) = (pk t p - 48, (p + 1, false)) := by
  unfold digS; rw [next_lt (s := (p, false)) hp]; exact if_neg (by simp only []; omega)
theorem dig_bad {t : ByteArray} {s : RS} (h : ¬ (s.1 < t.size ∧ 48 ≤ pk t s.1 ∧ pk t s.1 ≤ 57)) : digS t s = (0, failS t) := by
  unfold digS
  by_cases hp : s.1 < t.size
  · rw [next_lt hp]; exact if_pos (by simp only []; omega)
  · rw [next_end hp]; exact if_pos (by simp only []; omega)
theorem take_fail {t : ByteArray} {c : Int} (hc : 0 ≤ c) : takeS t c (failS t) = (false, failS t) :=
  take_miss (s := failS t) (by simp only [failS]; rw [pk_ge (by omega)]; omega)

theorem mark_bad {s : RS} : (markS s).2 = true := rfl

/-- Bounds, behind the {. -/
theorem sync_braces {t : ByteArray} {p : Nat} (hf : p ≤ t.size) :
    ((bracesS t (p, false)).2 = (t.size, true) ∧ (bndR t (p, false)).2.2 = true) ∨ (bracesS t (p, false) = bndR t (p, false) ∧ (bracesS t (p, false)).2.2 = false) := by
  by_cases hd : p < t.size ∧ 48 ≤ pk t p ∧ pk t p ≤ 57
  · obtain ⟨hp, g1, g2⟩ := hd
    have eD := dig_good hp g1 g2
    have eK := tk_lt (s := (p, false)) hp
    have eB1 : (bndR t (p, false)).2 = if (bndMost t (p, false)).2.1 = false then markS (bndMost t (p, false)).2.2 else (bndMost t (p, false)).2.2 := by
      unfold bndR
      rw [eK]
      simp only []
      by_cases hx : (bndMost t (p, false)).2.1 = false
      · rw [if_pos (Or.inr (Or.inr hx)), if_pos hx]
      · rw [if_neg (by rintro (h | h | h); omega; omega; exact hx h), if_neg hx]
    have eB2 : (bndR t (p, false)).1 = (pk t p - 48, (bndMost t (p, false)).1) := by unfold bndR; rw [eK]
    by_cases hc : pk t (p + 1) = 44
    · have eC := take_hit (t := t) (s := (p + 1, false)) hc
      have hp1 : p + 1 < t.size := pk_some (by omega)
      by_cases hq : pk t (p + 2) = 125
      · right
        have eQ := take_hit (t := t) (s := (p + 2, false)) hq
        have eM : mostS t (p, false) = (-1, (p + 2, false)) := by
          unfold mostS; rw [eD]; simp only []; rw [eC]; simp only [if_true]; unfold upS; exact if_pos hq
        have eS : bracesS t (p, false) = ((pk t p - 48, -1), (p + 3, false)) := by
          unfold bracesS; rw [eM, eD]; simp only []; rw [eQ]; simp
        have eN : bndMost t (p, false) = (-1, (true, (p + 3, false))) := by
          unfold bndMost; rw [eK]; simp only []; rw [eC]; simp only []; rw [eQ]; simp
        rw [eS]
        refine ⟨?_, rfl⟩
        rw [Prod.ext_iff]
        rw [eB1, eB2, eN]
        exact ⟨rfl, rfl⟩
      · have eQ := take_miss (t := t) (s := (p + 2, false)) hq
        have eM : mostS t (p, false) = digS t (p + 2, false) := by
          unfold mostS; rw [eD]; simp only []; rw [eC]; simp only [if_true]; unfold upS; exact if_neg hq
        have eN : bndMost t (p, false) = ((tkS t (p + 2, false)).1 - 48, ((takeS t 125 (tkS t (p + 2, false)).2).1, if (tkS t (p + 2, false)).1 < 48 ∨ 57 < (tkS t (p + 2, false)).1 ∨ (tkS t (p + 2, false)).1 - 48 < pk t p - 48 then markS (takeS t 125 (tkS t (p + 2, false)).2).2 else (takeS t 125 (tkS t (p + 2, false)).2).2)) := by
          unfold bndMost; rw [eK]; simp only []; rw [eC]; simp only []; rw [eQ]; simp
        by_cases hd2 : p + 2 < t.size ∧ 48 ≤ pk t (p + 2) ∧ pk t (p + 2) ≤ 57
        · obtain ⟨hp2, l1, l2⟩ := hd2
          have eD2 := dig_good hp2 l1 l2
          have eK2 := tk_lt (s := (p + 2, false)) hp2
          rw [eD2] at eM
          rw [eK2] at eN
          simp only [] at eN
          by_cases hz : pk t (p + 3) = 125
          · have eZ := take_hit (t := t) (s := (p + 3, false)) hz
            rw [eZ] at eN
            simp only [] at eN
            by_cases hl : pk t (p + 2) - 48 < pk t p - 48
            · left
              rw [if_pos (Or.inr (Or.inr hl))] at eN
              refine ⟨?_, ?_⟩
              · unfold bracesS; rw [eM, eD]; simp only []; rw [if_pos (Or.inr ⟨by omega, hl⟩)]; rfl
              · rw [eB1, eN]; rfl
            · right
              rw [if_neg (by omega)] at eN
              have eS : bracesS t (p, false) = ((pk t p - 48, pk t (p + 2) - 48), (p + 4, false)) := by
                unfold bracesS; rw [eM, eD]; simp only []; rw [eZ]; rw [if_neg (by simp; omega)]
              rw [eS]
              refine ⟨?_, rfl⟩
              rw [Prod.ext_iff, eB1, eB2, eN]
              exact ⟨rfl, rfl⟩
          · left
            have eZ := take_miss (t := t) (s := (p + 3, false)) hz
            refine ⟨?_, ?_⟩
            · unfold bracesS; rw [eM, eD]; simp only []; rw [eZ]; rw [if_pos (Or.inl rfl)]; rfl
            · rw [eB1, eN, eZ]; rfl
        · left
          have eD2 := dig_bad (t := t) (s := (p + 2, false)) hd2
          rw [eD2] at eM
          refine ⟨?_, ?_⟩
          · unfold bracesS; rw [eM]; simp only []; rw [take_fail (by omega)]; rw [if_pos (Or.inl rfl)]; rfl
          · have hmk : (bndMost t (p, false)).2.2.2 = true := by
              rw [eN]
              simp only []
              by_cases hp2 : p + 2 < t.size
              · rw [tk_lt (s := (p + 2, false)) hp2]
                simp only []
                rw [if_pos (by omega)]
                rfl
              · rw [tk_end (s := (p + 2, false)) hp2]
                simp
                rfl
            rw [eB1]
            split
            · rfl
            · exact hmk
    · have eC := take_miss (t := t) (s := (p + 1, false)) hc
      have eM : mostS t (p, false) = (pk t p - 48, (p + 1, false)) := by
        unfold mostS; rw [eD]; simp only []; rw [eC]; simp
      have eN : bndMost t (p, false) = (pk t p - 48, takeS t 125 (p + 1, false)) := by
        unfold bndMost; rw [eK]; simp only []; rw [eC]; simp
      by_cases hz : pk t (p + 1) = 125
      · right
        have eZ := take_hit (t := t) (s := (p + 1, false)) hz
        have eS : bracesS t (p, false) = ((pk t p - 48, pk t p - 48), (p + 2, false)) := by
          unfold bracesS; rw [eM, eD]; simp only []; rw [eZ]; rw [if_neg (by simp)]
        rw [eS]
        refine ⟨?_, rfl⟩
        rw [Prod.ext_iff, eB1, eB2, eN, eZ]
        exact ⟨rfl, rfl⟩
      · left
        have eZ := take_miss (t := t) (s := (p + 1, false)) hz
        refine ⟨?_, ?_⟩
        · unfold bracesS; rw [eM, eD]; simp only []; rw [eZ]; rw [if_pos (Or.inl rfl)]; rfl
        · rw [eB1, eN, eZ]; rfl
  · left
    have eD := dig_bad (t := t) (s := (p, false)) hd
    refine ⟨?_, ?_⟩
    · have eM : (mostS t (p, false)).2 = failS t := by
        unfold mostS; rw [eD]; simp only []; rw [take_fail (by omega)]; simp
      unfold bracesS; rw [eM, take_fail (by omega), if_pos (Or.inl rfl)]; rfl
    · by_cases hp : p < t.size
      · have eK := tk_lt (s := (p, false)) hp
        unfold bndR; rw [eK]; simp only []; rw [if_pos (by omega)]; rfl
      · have eK := tk_end (s := (p, false)) hp
        unfold bndR; rw [eK]; simp only []; rw [if_pos (by omega)]; rfl

/-- A repeat. -/
theorem sync_repeat {t : ByteArray} {p : Nat} (h : repS t (p, false) = true) :
    ((repeatS t (p, false)).2 = (t.size, true) ∧ (repR t (p, false)).2.2 = true) ∨ (repeatS t (p, false) = repR t (p, false) ∧ (repeatS t (p, false)).2.2 = false) := by
  have hp := repS_lt h
  have e1 := next_lt (s := (p, false)) hp
  have e2 := tk_lt (s := (p, false)) hp
  simp only [repS, Bool.or_eq_true, beq_iff_eq] at h
  unfold repeatS repR
  rw [e1, e2]
  simp only []
  by_cases h1 : pk t p = 42
  · right
    rw [h1]
    exact ⟨rfl, rfl⟩
  by_cases h2 : pk t p = 43
  · right
    rw [h2]
    exact ⟨rfl, rfl⟩
  by_cases h3 : pk t p = 63
  · right
    rw [h3]
    exact ⟨rfl, rfl⟩
  · have h4 : pk t p = 123 := by omega
    rw [if_neg h1, if_neg h2, if_neg h3, if_neg h2, if_neg h3, if_pos h4]
    exact sync_braces hp

end Go.Proofs.Ytgifhgnccmnbiaa

set_option linter.unusedVariables false
set_option linter.unusedSimpArgs false
namespace Go.Proofs.Ytgifhgnccmnbiaa
open Go.RowKit Go.IntWalk

def cap61 (x : Int) : Int := if 61 < x then 61 else x
def WfP (ps : List PN) : Prop := ∀ (i : Nat) (p : PN), ps[i]? = some p → ∀ k, k ∈ p.kids → k < i
def T (ps : List PN) (j : Nat) : Int := sizeG ps (j + 1) j
def sumT (ps : List PN) (l : List Nat) : Int := l.foldl (fun n k => wrap64 (n + T ps k)) 0

theorem sizeAt_app {ns more : List AN} {i : Nat} (h : i < ns.length) : sizeAt (ns ++ more) i = sizeAt ns i := by
  unfold sizeAt; rw [List.getElem?_append_left h]
theorem sizeAt_new {ns : List AN} {n : AN} : sizeAt (ns ++ [capN n]) ns.length = cap61 n.size := by
  unfold sizeAt cap61; simp [capN]
theorem foldl_same {f g : Nat → Int} : ∀ (l : List Nat) (n : Int), (∀ k, k ∈ l → f k = g k) → l.foldl (fun n k => wrap64 (n + f k)) n = l.foldl (fun n k => wrap64 (n + g k)) n
  | [], _, _ => rfl
  | x :: r, n, h => by
    rw [List.foldl_cons, List.foldl_cons, h x (by simp)]
    exact foldl_same r _ (fun k hk => h k (by simp [hk]))
theorem sizeG_app {ps more : List PN} (hw : WfP ps) : ∀ (f i : Nat), i < ps.length → sizeG (ps ++ more) f i = sizeG ps f i
  | 0, _, _ => rfl
  | f + 1, i, hi => by
    rw [sizeG, sizeG, List.getElem?_append_left hi]
    cases hp : ps[i]? with
    | none => rfl
    | some p =>
      simp only []
      congr 1
      exact foldl_same _ _ (fun k hk => sizeG_app hw f k (by have := hw i p hp k hk; omega))
theorem T_app {ps more : List PN} (hw : WfP ps) {i : Nat} (hi : i < ps.length) : T (ps ++ more) i = T ps i := sizeG_app hw _ _ hi
theorem sumT_app {ps more : List PN} (hw : WfP ps) {l : List Nat} (hl : ∀ k, k ∈ l → k < ps.length) : sumT (ps ++ more) l = sumT ps l :=
  foldl_same _ _ (fun k hk => T_app hw (hl k hk))
theorem WfP.push {ps : List PN} {p : PN} (hw : WfP ps) (hl : ∀ k, k ∈ p.kids → k < ps.length) : WfP (ps ++ [p]) := by
  intro i q hq k hk
  by_cases hi : i < ps.length
  · rw [List.getElem?_append_left hi] at hq; exact hw i q hq k hk
  · have hi2 : i = ps.length := by
      have := (List.getElem?_eq_some_iff.1 hq).1
      simp at this; omega
    subst hi2
    rw [List.getElem?_append_right (Nat.le_refl _), Nat.sub_self] at hq
    simp at hq
    subst hq
    exact hl k hk
theorem T_new {ps : List PN} {p : PN} (hw : WfP ps) (hl : ∀ k, k ∈ p.kids → k < ps.length) : T (ps ++ [p]) ps.length = sizeK p (sumT ps p.kids) := by
  unfold T
  rw [sizeG]
  simp only [List.getElem?_append_right (Nat.le_refl _), Nat.sub_self, List.getElem?_cons_zero]
  congr 1
  exact foldl_same _ _ (fun k hk => by
    rw [sizeG_app hw _ _ (hl k hk)]
    exact sizeG_more ps hw _ _ k (hl k hk) (Nat.lt_succ_self _))
theorem sumT_snoc {ps : List PN} {l : List Nat} {k : Nat} : sumT ps (l ++ [k]) = wrap64 (sumT ps l + T ps k) := by
  unfold sumT; rw [List.foldl_append]; rfl

/- BOUNDS: x * 2^d ≤ 5^d. -/
def Bd (x : Int) (d : Nat) : Prop := 1 ≤ x ∧ x * 2 ^ d ≤ 5 ^ d
theorem pow_pos5 (d : Nat) : (0 : Int) < 5 ^ d := Int.pow_pos (by omega)
theorem pow_pos2 (d : Nat) : (0 : Int) < 2 ^ d := Int.pow_pos (by omega)
theorem two_five (d : Nat) : (2 : Int) ^ d ≤ 5 ^ d := by
  induction d with
  | zero => decide
  | succ n ih => rw [Int.pow_succ, Int.pow_succ]; have := pow_pos5 n; have := pow_pos2 n; omega
theorem two_five1 (d : Nat) (h : 1 ≤ d) : 5 * (2 : Int) ^ d ≤ 2 * 5 ^ d := by
  obtain ⟨n, rfl⟩ : ∃ n, d = n + 1 := ⟨d - 1, by omega⟩
  rw [Int.pow_succ, Int.pow_succ]
  have := two_five n; omega
theorem Bd.one (d : Nat) : Bd 1 d := ⟨Int.le_refl _, by rw [Int.one_mul]; exact two_five d⟩
theorem Bd.small {x : Int} {d : Nat} (h : Bd x d) (hd : d ≤ 40) : x ≤ 8271806125530276 := by
  obtain ⟨h1, h2⟩ := h
  obtain ⟨c, hc⟩ : ∃ c, 40 = d + c := ⟨40 - d, by omega⟩
  have e : x * 2 ^ 40 ≤ 5 ^ 40 := by
    rw [hc, Int.pow_add, Int.pow_add, ← Int.mul_assoc]
    exact Int.mul_le_mul h2 (two_five c) (Int.le_of_lt (pow_pos2 c)) (Int.le_of_lt (pow_pos5 d))
  have e2 : (2 : Int) ^ 40 = 1099511627776 := by decide
  have e5 : (5 : Int) ^ 40 = 9094947017729282379150390625 := by decide
  rw [e2, e5] at e
  omega
theorem Bd.mul {x k : Int} {d c : Nat} (h : Bd x d) (hk : Bd k c) : Bd (x * k) (d + c) := by
  obtain ⟨h1, h2⟩ := h
  obtain ⟨h3, h4⟩ := hk
  refine ⟨?_, ?_⟩
  · have := Int.mul_le_mul h1 h3 (by omega) (by omega : (0 : Int) ≤ x); omega
  · have e : x * k * 2 ^ (d + c) = (x * 2 ^ d) * (k * 2 ^ c) := by rw [Int.pow_add]; ac_rfl
    rw [e, Int.pow_add]
    exact Int.mul_le_mul h2 h4 (Int.mul_nonneg (by omega) (Int.le_of_lt (pow_pos2 c))) (Int.le_of_lt (pow_pos5 d))
theorem sum_le {x y A B C D : Int} (hx : x * C ≤ A) (hy : y * D ≤ B) (hC : 0 < C) (hD : 0 < D) : (x + y) * (C * D) ≤ A * D + B * C := by
  have e : (x + y) * (C * D) = (x * C) * D + (y * D) * C := by rw [Int.add_mul]; congr 1 <;> ac_rfl
  rw [e]
  have h1 := Int.mul_le_mul_of_nonneg_right hx (Int.le_of_lt hD)
  have h2 := Int.mul_le_mul_of_nonneg_right hy (Int.le_of_lt hC)
  omega
theorem Bd.add {x y : Int} {a b : Nat} (hx : Bd x a) (hy : Bd y b) (ha : 1 ≤ a) (hb : 1 ≤ b) : Bd (x + y) (a + b) := by
  refine ⟨by have := hx.1; have := hy.1; omega, ?_⟩
  rw [Int.pow_add, Int.pow_add]
  have h := sum_le hx.2 hy.2 (pow_pos2 a) (pow_pos2 b)
  have h1 := Int.mul_le_mul_of_nonneg_left (two_five1 b hb) (Int.le_of_lt (pow_pos5 a))
  have h2 := Int.mul_le_mul_of_nonneg_left (two_five1 a ha) (Int.le_of_lt (pow_pos5 b))
  have e1 : (5 : Int) ^ a * (5 * 2 ^ b) = 5 * (5 ^ a * 2 ^ b) := by ac_rfl
  have e2 : (5 : Int) ^ a * (2 * 5 ^ b) = 2 * (5 ^ a * 5 ^ b) := by ac_rfl
  have e3 : (5 : Int) ^ b * (5 * 2 ^ a) = 5 * (5 ^ b * 2 ^ a) := by ac_rfl
  have e4 : (5 : Int) ^ b * (2 * 5 ^ a) = 2 * (5 ^ a * 5 ^ b) := by ac_rfl
  rw [e1, e2] at h1
  rw [e3, e4] at h2
  have h3 := Int.mul_pos (pow_pos5 a) (pow_pos5 b)
  omega
theorem Bd.or {x y : Int} {a b : Nat} (hx : Bd x a) (hy : Bd y b) : Bd (x + y) (a + b + 1) := by
  refine ⟨by have := hx.1; have := hy.1; omega, ?_⟩
  rw [Int.pow_succ, Int.pow_succ, Int.pow_add, Int.pow_add]
  have h := sum_le hx.2 hy.2 (pow_pos2 a) (pow_pos2 b)
  have h1 := Int.mul_le_mul_of_nonneg_left (two_five b) (Int.le_of_lt (pow_pos5 a))
  have h2 := Int.mul_le_mul_of_nonneg_left (two_five a) (Int.le_of_lt (pow_pos5 b))
  have e4 : (5 : Int) ^ b * 5 ^ a = 5 ^ a * 5 ^ b := by ac_rfl
  rw [e4] at h2
  have h3 := Int.mul_pos (pow_pos5 a) (pow_pos5 b)
  have e5 : (x + y) * (2 ^ a * 2 ^ b * 2) = 2 * ((x + y) * (2 ^ a * 2 ^ b)) := by ac_rfl
  rw [e5]
  omega
theorem Bd.more {x : Int} {d c : Nat} (h : Bd x d) : Bd x (d + c) := by have := h.mul (Bd.one c); rwa [Int.mul_one] at this

theorem cap_add (x y : Int) (hx : 1 ≤ x) (hy : 1 ≤ y) : cap61 (cap61 x + cap61 y) = cap61 (x + y) := by unfold cap61; repeat' split
                                                                                                        all_goals omega
theorem cap_mul (x k : Int) (hx : 1 ≤ x) (hk : 1 ≤ k) : cap61 (cap61 x * k) = cap61 (x * k) := by
  by_cases h : 61 < x
  · have e : cap61 x = 61 := if_pos h
    rw [e]
    have h1 : x ≤ x * k := by have := Int.mul_le_mul_of_nonneg_left hk (by omega : (0 : Int) ≤ x); omega
    have h2 : 61 ≤ 61 * k := by omega
    unfold cap61
    rw [if_pos (show 61 < x * k by omega)]
    split
    · rfl
    · omega
  · have e : cap61 x = x := if_neg h
    rw [e]

end Go.Proofs.Ytgifhgnccmnbiaa
