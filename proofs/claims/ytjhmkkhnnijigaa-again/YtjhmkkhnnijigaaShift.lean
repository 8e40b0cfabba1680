/- The reader on a pattern that stands in brackets within a greater one: it reads the same. No Go in it. -/
import Derived.Test.YtjhmkkhnnijigaaNodesWf
set_option linter.unusedVariables false
set_option linter.unusedSimpArgs false
namespace Go.Proofs.Ytjhmkkhnnijigaa

/-- The pattern p stands in t from place a on, and behind it a closing bracket. -/
structure Emb (p t : ByteArray) (a : Nat) : Prop where
  byte : ∀ i, i < p.size → pk t (a + i) = pk p i
  stop : pk t (a + p.size) = 41
def shP (a : Nat) (s : RS) : RS := (a + s.1, s.2)

section
variable {p t : ByteArray} {a : Nat} (e : Emb p t a)
include e
theorem emb_lt : a + p.size < t.size := pk_some (by rw [e.stop]; omega)
theorem sh_pk {s : RS} (h : s.1 < p.size) : pk t (shP a s).1 = pk p s.1 := e.byte _ h
theorem sh_end {s : RS} (h : ¬ s.1 < p.size) (hf : Fits p s) : pk t (shP a s).1 = 41 ∧ pk p s.1 = -1 := by
  have : s.1 = p.size := by simp only [Fits] at hf; omega
  constructor
  · show pk t (a + s.1) = 41; rw [this]; exact e.stop
  · exact pk_ge h

theorem sh_next {s : RS} (h : (nextS p s).2.2 = false) : nextS t (shP a s) = ((nextS p s).1, shP a (nextS p s).2) ∧ s.1 < p.size ∧ s.2 = false := by
  unfold nextS at h ⊢
  by_cases hp : pk p s.1 = -1
  · rw [if_pos hp] at h; exact nomatch (show true = false from h)
  · have hlt : s.1 < p.size := by
      have := pk_bd p s.1
      exact pk_some (by omega)
    rw [if_neg hp] at h ⊢
    rw [sh_pk e hlt, if_neg hp]
    exact ⟨rfl, hlt, h⟩
theorem sh_take {c : Int} (hc : 0 ≤ c) (hc41 : c ≠ 41) {s : RS} (hf : Fits p s) : takeS t c (shP a s) = ((takeS p c s).1, shP a (takeS p c s).2) := by
  unfold takeS
  by_cases hlt : s.1 < p.size
  · rw [sh_pk e hlt]
    split <;> rfl
  · obtain ⟨h1, h2⟩ := sh_end e hlt hf
    rw [h1, h2, if_neg (by omega), if_neg (by omega)]
theorem sh_take41 {s : RS} (h : (takeS p 41 s).1 = true) : takeS t 41 (shP a s) = (true, shP a (takeS p 41 s).2) := by
  unfold takeS at h ⊢
  by_cases hp : pk p s.1 = 41
  · have hlt : s.1 < p.size := pk_some (by omega)
    rw [if_pos hp, sh_pk e hlt, if_pos hp]
    rfl
  · rw [if_neg hp] at h; cases h
theorem sh_endS {s : RS} (hf : Fits p s) : endS t (shP a s) = endS p s := by
  unfold endS
  by_cases hlt : s.1 < p.size
  · rw [sh_pk e hlt]
  · obtain ⟨h1, h2⟩ := sh_end e hlt hf
    rw [h1, h2]; rfl
theorem sh_repS {s : RS} (hf : Fits p s) : repS t (shP a s) = repS p s := by
  unfold repS
  by_cases hlt : s.1 < p.size
  · rw [sh_pk e hlt]
  · obtain ⟨h1, h2⟩ := sh_end e hlt hf
    rw [h1, h2]; rfl
theorem sh_mem {s : RS} (h : (memS p s).2.2 = false) : memS t (shP a s) = ((memS p s).1, shP a (memS p s).2) ∧ s.1 < p.size ∧ s.2 = false := by
  unfold memS at h ⊢
  by_cases h92 : (nextS p s).1 = 92
  · rw [if_pos h92] at h ⊢
    obtain ⟨h1, _, h2⟩ := sh_next e h
    obtain ⟨h3, h4, h5⟩ := sh_next e h2
    rw [h3, if_pos h92, h1]
    exact ⟨rfl, h4, h5⟩
  · rw [if_neg h92] at h ⊢
    obtain ⟨h3, h4, h5⟩ := sh_next e h
    rw [h3, if_neg h92]
    exact ⟨rfl, h4, h5⟩
theorem sh_sec {s : RS} (hf : Fits p s) (h : pk p s.1 = 45 → s.1 + 1 < p.size) : secS t (shP a s) = secS p s := by
  unfold secS
  by_cases hlt : s.1 < p.size
  · rw [sh_pk e hlt]
    by_cases h45 : pk p s.1 = 45
    · have := e.byte (s.1 + 1) (h h45)
      rw [show (shP a s).1 + 1 = a + (s.1 + 1) by simp only [shP]; omega, this]
    · have : (pk p s.1 == 45) = false := beq_eq_false_iff_ne.2 h45
      rw [this]; rfl
  · obtain ⟨h1, h2⟩ := sh_end e hlt hf
    rw [h1, h2]; rfl
theorem sh_item {s : RS} (hf : Fits p s) (h : (itemS p s).2.2 = false) (h45 : pk p (memS p s).2.1 = 45 → (memS p s).2.1 + 1 < p.size) :
    itemS t (shP a s) = ((itemS p s).1, shP a (itemS p s).2) ∧ s.2 = false := by
  have hfm := fits_mem hf
  unfold itemS at h ⊢
  simp only [] at h ⊢
  by_cases hlow : (highS p s).1 < (memS p s).1
  · rw [if_pos hlow] at h; exact nomatch (show true = false from h)
  · rw [if_neg hlow] at h ⊢
    unfold highS at h hlow ⊢
    by_cases hs : secS p (memS p s).2 = true
    · rw [if_pos hs] at h hlow
      obtain ⟨h1, _, h2⟩ := sh_mem e h
      have h2' : (memS p s).2.2 = false := h2
      obtain ⟨h3, _, h4⟩ := sh_mem e h2'
      rw [h3]
      simp only []
      rw [sh_sec e hfm h45, if_pos hs, if_pos hs]
      have h1' : memS t ((shP a (memS p s).2).1 + 1, (shP a (memS p s).2).2) = _ := h1
      rw [h1']
      simp only []
      rw [if_neg hlow]
      exact ⟨rfl, h4⟩
    · rw [if_neg hs] at h hlow
      obtain ⟨h3, _, h4⟩ := sh_mem e h
      rw [h3]
      simp only []
      rw [sh_sec e hfm h45, if_neg hs, if_neg hs]
      simp only []
      rw [if_neg hlow]
      exact ⟨rfl, h4⟩
end

theorem itemsF_bad (p : ByteArray) : ∀ (f : Nat) (s : RS) (acc : List (Int × Int)), (itemsF p f s acc).2.2 = false → s.2 = false
  | 0, s, acc, h => h
  | f + 1, s, acc, h => by
    rw [itemsF] at h
    split at h
    · have h1 := itemsF_bad p f _ _ h
      unfold itemS at h1
      simp only [] at h1
      split at h1
      · exact nomatch (show true = false from h1)
      · have hnext : ∀ s : RS, (nextS p s).2.2 = false → s.2 = false := fun s hs => by
          unfold nextS at hs; split at hs
          · exact nomatch (show true = false from hs)
          · exact hs
        have hmem : ∀ s : RS, (memS p s).2.2 = false → s.2 = false := fun s hs => by
          unfold memS at hs; split at hs
          · exact hnext _ (hnext _ hs)
          · exact hnext _ hs
        unfold highS at h1
        split at h1
        · have h2 := hmem _ h1
          exact hmem s h2
        · exact hmem _ h1
    · exact h

section
variable {p t : ByteArray} {a : Nat} (e : Emb p t a)
include e
theorem sh_items : ∀ (f g : Nat) (s : RS) (acc : List (Int × Int)), Fits p s → p.size - s.1 ≤ f → t.size - (a + s.1) ≤ g → (itemsF p f s acc).2.1 < p.size → (itemsF p f s acc).2.2 = false →
    itemsF t g (shP a s) acc = ((itemsF p f s acc).1, shP a (itemsF p f s acc).2)
  | 0, g, s, acc, hf, h1, h2, h3, h4 => by
    simp only [itemsF] at h3
    omega
  | f + 1, 0, s, acc, hf, h1, h2, h3, h4 => by
    have := emb_lt e
    simp only [Fits] at hf
    omega
  | f + 1, g + 1, s, acc, hf, h1, h2, h3, h4 => by
    have hge := itemsF_ge p (f + 1) s acc
    have hlt : s.1 < p.size := by omega
    have hq : itemQ t (shP a s) = itemQ p s := by unfold itemQ; rw [sh_pk e hlt]
    rw [itemsF] at h3 h4 ⊢
    rw [itemsF, hq]
    by_cases hi : itemQ p s = true
    · rw [if_pos hi] at h3 h4
      rw [if_pos hi, if_pos hi]
      have hgt := item_gt hlt
      have hgood := itemsF_bad p f _ _ h4
      have hge2 := itemsF_ge p f (itemS p s).2 (acc ++ [(itemS p s).1])
      have hfi := fits_item hf
      have h45 : pk p (memS p s).2.1 = 45 → (memS p s).2.1 + 1 < p.size := fun h45 => by
        by_cases hs : secS p (memS p s).2 = true
        · simp only [secS, Bool.and_eq_true, bne_iff_ne] at hs
          have := pk_bd p ((memS p s).2.1 + 1)
          exact pk_some (by omega)
        · -- the item ends here, and the sign stands first in the next one
          have hend : (itemS p s).2 = (memS p s).2 := by
            unfold itemS at hgood ⊢
            simp only [] at hgood ⊢
            split
            · rename_i hl; rw [if_pos hl] at hgood; exact nomatch (show true = false from hgood)
            · unfold highS; rw [if_neg hs]
          rw [hend] at h3 hge2 hgt
          have hml : (memS p s).2.1 < p.size := by omega
          obtain ⟨f', rfl⟩ : ∃ f', f = f' + 1 := ⟨f - 1, by omega⟩
          have hq2 : itemQ p (memS p s).2 = true := by
            unfold itemQ; rw [h45]; rfl
          rw [itemsF, if_pos hq2] at h3
          have h5 := item_gt hml
          have h6 := itemsF_ge p f' (itemS p (memS p s).2).2 (acc ++ [(itemS p s).1] ++ [(itemS p (memS p s).2).1])
          omega
      obtain ⟨h5, _⟩ := sh_item e hf hgood h45
      rw [h5]
      have hgt2 : s.1 < (itemS p s).2.1 := hgt
      exact sh_items f g (itemS p s).2 _ hfi (by omega) (by omega) h3 h4
    · rw [if_neg hi, if_neg hi]
theorem sh_dig {s : RS} (h : (digS p s).2.2 = false) : digS t (shP a s) = ((digS p s).1, shP a (digS p s).2) ∧ s.1 < p.size ∧ s.2 = false := by
  unfold digS at h ⊢
  by_cases hd : (nextS p s).1 < 48 ∨ 57 < (nextS p s).1
  · rw [if_pos hd] at h; exact nomatch (show true = false from h)
  · rw [if_neg hd] at h ⊢
    obtain ⟨h1, h2, h3⟩ := sh_next e h
    rw [h1]
    simp only []
    rw [if_neg hd]
    exact ⟨rfl, h2, h3⟩
theorem sh_up {s : RS} (hf : Fits p s) (h : (upS p s).2.2 = false) : upS t (shP a s) = ((upS p s).1, shP a (upS p s).2) ∧ s.2 = false := by
  unfold upS at h ⊢
  by_cases h125 : pk p s.1 = 125
  · have hlt : s.1 < p.size := pk_some (by omega)
    rw [if_pos h125] at h
    rw [sh_pk e hlt, if_pos h125, if_pos h125]
    exact ⟨rfl, h⟩
  · rw [if_neg h125] at h
    obtain ⟨h1, h2, h3⟩ := sh_dig e h
    rw [sh_pk e h2, if_neg h125, if_neg h125, h1]
    exact ⟨rfl, h3⟩
omit e in
theorem takeS_bad {c : Int} {s : RS} (h : (takeS p c s).2.2 = false) : s.2 = false := by
  unfold takeS at h; split at h <;> exact h
theorem sh_most {s : RS} (hf : Fits p s) (h : (mostS p s).2.2 = false) : mostS t (shP a s) = ((mostS p s).1, shP a (mostS p s).2) ∧ (digS p s).2.2 = false := by
  have hfd := fits_dig hf
  unfold mostS at h ⊢
  by_cases hc : (takeS p 44 (digS p s).2).1 = true
  · rw [if_pos hc] at h
    obtain ⟨h1, h2⟩ := sh_up e (fits_take (by omega) hfd) h
    have hd := takeS_bad h2
    obtain ⟨h3, _, _⟩ := sh_dig e hd
    rw [h3]
    simp only []
    rw [sh_take e (by omega) (by omega) hfd]
    simp only []
    rw [if_pos hc, if_pos hc, h1]
    exact ⟨rfl, hd⟩
  · rw [if_neg hc] at h
    have hd := takeS_bad h
    obtain ⟨h3, _, _⟩ := sh_dig e hd
    rw [h3]
    simp only []
    rw [sh_take e (by omega) (by omega) hfd]
    simp only []
    rw [if_neg hc, if_neg hc]
    exact ⟨rfl, hd⟩
theorem sh_braces {s : RS} (hf : Fits p s) (h : (bracesS p s).2.2 = false) : bracesS t (shP a s) = ((bracesS p s).1, shP a (bracesS p s).2) ∧ s.2 = false := by
  have hfm := fits_most hf
  unfold bracesS at h ⊢
  by_cases hc : (takeS p 125 (mostS p s).2).1 = false ∨ ((mostS p s).1 ≠ -1 ∧ (mostS p s).1 < (digS p s).1)
  · rw [if_pos hc] at h; exact nomatch (show true = false from h)
  · rw [if_neg hc] at h
    have hm := takeS_bad h
    obtain ⟨h1, h2⟩ := sh_most e hf hm
    obtain ⟨h3, _, h4⟩ := sh_dig e h2
    rw [h1, h3]
    simp only []
    rw [sh_take e (by omega) (by omega) hfm]
    simp only []
    rw [if_neg hc, if_neg hc]
    exact ⟨rfl, h4⟩
theorem sh_repeat {s : RS} (hf : Fits p s) (h : (repeatS p s).2.2 = false) : repeatS t (shP a s) = ((repeatS p s).1, shP a (repeatS p s).2) ∧ s.2 = false := by
  have hfn := fits_next (t := p) (s := s) hf
  have hn : (nextS p s).2.2 = false := by
    unfold repeatS at h
    repeat' split at h
    · exact h
    · exact h
    · exact h
    · exact (sh_braces e hfn h).2
  obtain ⟨h1, _, h2⟩ := sh_next e hn
  unfold repeatS at h ⊢
  rw [h1]
  simp only []
  by_cases c1 : (nextS p s).1 = 42
  · rw [if_pos c1, if_pos c1]; exact ⟨rfl, h2⟩
  · rw [if_neg c1, if_neg c1]
    rw [if_neg c1] at h
    by_cases c2 : (nextS p s).1 = 43
    · rw [if_pos c2, if_pos c2]; exact ⟨rfl, h2⟩
    · rw [if_neg c2, if_neg c2]
      rw [if_neg c2] at h
      by_cases c3 : (nextS p s).1 = 63
      · rw [if_pos c3, if_pos c3]; exact ⟨rfl, h2⟩
      · rw [if_neg c3, if_neg c3]
        rw [if_neg c3] at h
        exact ⟨(sh_braces e hfn h).1, h2⟩
end

end Go.Proofs.Ytjhmkkhnnijigaa
