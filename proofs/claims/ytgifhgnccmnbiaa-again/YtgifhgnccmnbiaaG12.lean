/- Pieces of a line, for patterns in which no ^ and no $ stands. No Go in it. -/
import Derived.Test.YtgifhgnccmnbiaaG11
import Derived.Test.YtgifhgnccmnbiaaG01
import Derived.Test.YtgifhgnccmnbiaaG10
set_option linter.unusedVariables false
set_option linter.unusedSimpArgs false
namespace Go.Proofs.Ytgifhgnccmnbiaa

def NoAnch (ns : List AN) : Prop := ∀ n, n ∈ ns → n.kind ≠ 2 ∧ n.kind ≠ 3
theorem noAnch_add {ns : List AN} {n : AN} {s : RS} (h : NoAnch ns) (hn : n.kind ≠ 2 ∧ n.kind ≠ 3) : NoAnch (addS n (s, ns)).2.2 := fun m hm => by
  simp only [addS, List.mem_append, List.mem_singleton] at hm
  rcases hm with hm | rfl
  · exact h m hm
  · exact hn
theorem D.noAnch {t : ByteArray} (ht : ¬ Anch t t.size) {tag cur : Nat} {st : PS} {r : Nat × PS} (h : D t tag cur st r) : NoAnch st.2 → NoAnch r.2.2 := by
  induction h with
  | pattern _ _ a b => exact fun h => b (a h)
  | empty he => exact fun h => noAnch_add h (by simp)
  | branch he _ _ a b => exact fun h => b (a h)
  | piece _ _ a b => exact fun h => b (a h)
  | group he _ a => exact fun h => by rw [close_len]; exact a h
  | list he => exact fun h => noAnch_add h (by simp)
  | @plain cur st h1 h2 =>
    intro h
    have key : ∀ c : Int, (c = 94 ∨ c = 36) → (nextS t st.1).1 ≠ c := fun c hc he => by
      unfold nextS at he
      split at he
      · simp only [] at he; omega
      · rename_i hp
        have hlt : st.1.1 < t.size := pk_some (by simp only [] at he; omega)
        rw [pk_lt hlt] at he
        exact ht ⟨st.1.1, hlt, hlt, by simp only [] at he; omega⟩
    have k1 := key 94 (Or.inl rfl)
    have k2 := key 36 (Or.inr rfl)
    unfold plainS bytesS
    repeat' split
    all_goals first
      | exact noAnch_add h (by simp)
      | (exfalso; exact k1 (by assumption))
      | (exfalso; exact k2 (by assumption))
  | or he _ _ a b => exact fun h => b (noAnch_add (a h) (by simp))
  | orEnd he => exact fun h => h
  | and he _ _ a b => exact fun h => b (noAnch_add (a h) (by simp))
  | andEnd he => exact fun h => h
  | rep he _ a => exact fun h => a (noAnch_add h (by simp))
  | repEnd he => exact fun h => h
theorem pat_noAnch {t : ByteArray} {r : Nat × PS} (h : PatOk t r) (ht : ¬ Anch t t.size) : NoAnch r.2.2 :=
  (h.ev.deriv (Nat.zero_le _)).noAnch ht (fun n hn => by simp [st0] at hn)

theorem piece_size {s : ByteArray} {a b : Nat} (hb : b ≤ s.size) : (s.extract a b).size = b - a := by rw [ByteArray.size_extract]; omega
theorem tr_piece {ns : List AN} (hn : NoAnch ns) (fold : Bool) (s : ByteArray) {a b : Nat} (hab : a ≤ b) (hb : b ≤ s.size) : ∀ (u : List Nat) (i j : Nat), i ≤ b - a → (Tr ns fold (s.extract a b) u i j ↔ Tr ns fold s u (a + i) (a + j) ∧ a + j ≤ b)
  | [], i, j, hi => by
    simp only [Tr]
    rw [piece_size hb]
    constructor
    · rintro ⟨rfl, h⟩; exact ⟨⟨rfl, by omega⟩, by omega⟩
    · rintro ⟨⟨h1, h2⟩, h3⟩; exact ⟨by omega, hi⟩
  | k :: u, i, j, hi => by
    simp only [Tr]
    constructor
    · rintro ⟨m, ⟨n, hk, hg⟩, h2⟩
      have hnn := hn n (List.mem_of_getElem? hk)
      rcases hg with ⟨h1, rfl, h3, h4⟩ | ⟨h1, _⟩ | ⟨h1, _⟩
      · have hsz := piece_size (a := a) hb
        obtain ⟨h5, h6⟩ := (tr_piece hn fold s hab hb u (i + 1) j (by omega)).1 h2
        refine ⟨⟨a + (i + 1), ⟨n, hk, Or.inl ⟨h1, by omega, by omega, ?_⟩⟩, h5⟩, h6⟩
        rw [ByteArray.getElem_extract] at h4
        exact h4
      · exact absurd h1 hnn.1
      · exact absurd h1 hnn.2
    · rintro ⟨⟨m, ⟨n, hk, hg⟩, h2⟩, h3⟩
      have hnn := hn n (List.mem_of_getElem? hk)
      rcases hg with ⟨h1, rfl, h4, h5⟩ | ⟨h1, _⟩ | ⟨h1, _⟩
      · have hle := h2.le
        have hsz := piece_size (a := a) hb
        refine ⟨i + 1, ⟨n, hk, Or.inl ⟨h1, rfl, by omega, ?_⟩⟩, (tr_piece hn fold s hab hb u (i + 1) j (by omega)).2 ⟨h2, h3⟩⟩
        rw [ByteArray.getElem_extract]
        exact h5
      · exact absurd h1 hnn.1
      · exact absurd h1 hnn.2

theorem mat_piece {ns : List AN} (hn : NoAnch ns) (fold : Bool) (s : ByteArray) (k : Nat) {a b : Nat} (hab : a ≤ b) (hb : b ≤ s.size) : Mat ns fold (s.extract a b) k 0 (s.extract a b).size ↔ Mat ns fold s k a b := by
  unfold Mat
  rw [piece_size hb]
  constructor
  · rintro ⟨u, h1, h2⟩
    have := ((tr_piece hn fold s hab hb u 0 (b - a) (Nat.zero_le _)).1 h2).1
    rw [show a + (b - a) = b by omega] at this
    exact ⟨u, h1, this⟩
  · rintro ⟨u, h1, h2⟩
    refine ⟨u, h1, (tr_piece hn fold s hab hb u 0 (b - a) (Nat.zero_le _)).2 ⟨?_, by omega⟩⟩
    rw [show a + (b - a) = b by omega]
    exact h2
theorem piece_line {s : ByteArray} (h : IsLine s) (a b : Nat) : IsLine (s.extract a b) := by
  have h1 := h.1
  refine ⟨by rw [ByteArray.size_extract]; omega, fun i hi hs => ?_⟩
  have h2 : i < (s.extract a b).size := hs
  rw [ByteArray.size_extract] at h2
  rw [ByteArray.getElem_extract]
  exact h.2 (a + i) (by omega) (by omega)

/-- Somewhere in the line means: some piece of it, whole. -/
theorem any_pieces {t : ByteArray} {r : Nat × PS} (h : PatOk t r) (ht : ¬ Anch t t.size) (fold : Bool) (s : ByteArray) :
    selB r fold false s = true ↔ ∃ i j, i ≤ j ∧ j ≤ s.size ∧ selB r fold true (s.extract i j) = true := by
  have hn := pat_noAnch h ht
  rw [sel_any h]
  constructor
  · rintro ⟨i, j, hM⟩
    obtain ⟨u, h1, h2⟩ := hM
    have hle := h2.le
    exact ⟨i, j, by omega, by omega, (sel_whole h fold _).2 ((mat_piece hn fold s r.1 (by omega) (by omega)).2 ⟨u, h1, h2⟩)⟩
  · rintro ⟨i, j, h1, h2, h3⟩
    exact ⟨i, j, (mat_piece hn fold s r.1 h1 h2).1 ((sel_whole h fold _).1 h3)⟩

end Go.Proofs.Ytgifhgnccmnbiaa

set_option linter.unusedVariables false
set_option linter.unusedSimpArgs false
namespace Go.Proofs.Ytgifhgnccmnbiaa

/-- The pattern p stands in t from place a on, and behind it a closing bracket. -/
structure Emb (p t : ByteArray) (a : Nat) : Prop where
  byte : ∀ i, i < p.size → pk t (a + i) = pk p i
  stop : pk t (a + p.size) = 41
def shP (a : Nat) (s : RS) : RS := (a + s.1, s.2)

section
variable {p t : ByteArray} {a : Nat} (e : Emb p t a)
include e
theorem emb_lt : a + p.size < t.size := pk_some (by rw [e.stop]; omega)
theorem sh_pk {s : RS} (h : s.1 < p.size) : pk t (shP a s).1 = pk p s.1 := e.byte _ h
theorem sh_end {s : RS} (h : ¬ s.1 < p.size) (hf : Fits p s) : pk t (shP a s).1 = 41 ∧ pk p s.1 = -1 := by
  have : s.1 = p.size := by simp only [Fits] at hf; omega
  constructor
  · show pk t (a + s.1) = 41; rw [this]; exact e.stop
  · exact pk_ge h

theorem sh_next {s : RS} (h : (nextS p s).2.2 = false) : nextS t (shP a s) = ((nextS p s).1, shP a (nextS p s).2) ∧ s.1 < p.size ∧ s.2 = false := by
  unfold nextS at h ⊢
  by_cases hp : pk p s.1 = -1
  · rw [if_pos hp] at h; exact nomatch (show true = false from h)
  · have hlt : s.1 < p.size := by
      have := pk_bd p s.1
      exact pk_some (by omega)
    rw [if_neg hp] at h ⊢
    rw [sh_pk e hlt, if_neg hp]
    exact ⟨rfl, hlt, h⟩
theorem sh_take {c : Int} (hc : 0 ≤ c) (hc41 : c ≠ 41) {s : RS} (hf : Fits p s) : takeS t c (shP a s) = ((takeS p c s).1, shP a (takeS p c s).2) := by
  unfold takeS
  by_cases hlt : s.1 < p.size
  · rw [sh_pk e hlt]
    split <;> rfl
  · obtain ⟨h1, h2⟩ := sh_end e hlt hf
    rw [h1, h2, if_neg (by omega), if_neg (by omega)]
theorem sh_take41 {s : RS} (h : (takeS p 41 s).1 = true) : takeS t 41 (shP a s) = (true, shP a (takeS p 41 s).2) := by
  unfold takeS at h ⊢
  by_cases hp : pk p s.1 = 41
  · have hlt : s.1 < p.size := pk_some (by omega)
    rw [if_pos hp, sh_pk e hlt, if_pos hp]
    rfl
  · rw [if_neg hp] at h; cases h
theorem sh_endS {s : RS} (hf : Fits p s) : endS t (shP a s) = endS p s := by
  unfold endS
  by_cases hlt : s.1 < p.size
  · rw [sh_pk e hlt]
  · obtain ⟨h1, h2⟩ := sh_end e hlt hf
    rw [h1, h2]; rfl
theorem sh_repS {s : RS} (hf : Fits p s) : repS t (shP a s) = repS p s := by
  unfold repS
  by_cases hlt : s.1 < p.size
  · rw [sh_pk e hlt]
  · obtain ⟨h1, h2⟩ := sh_end e hlt hf
    rw [h1, h2]; rfl
theorem sh_mem {s : RS} (h : (memS p s).2.2 = false) : memS t (shP a s) = ((memS p s).1, shP a (memS p s).2) ∧ s.1 < p.size ∧ s.2 = false := by
  unfold memS at h ⊢
  by_cases h92 : (nextS p s).1 = 92
  · rw [if_pos h92] at h ⊢
    obtain ⟨h1, _, h2⟩ := sh_next e h
    obtain ⟨h3, h4, h5⟩ := sh_next e h2
    rw [h3, if_pos h92, h1]
    exact ⟨rfl, h4, h5⟩
  · rw [if_neg h92] at h ⊢
    obtain ⟨h3, h4, h5⟩ := sh_next e h
    rw [h3, if_neg h92]
    exact ⟨rfl, h4, h5⟩
theorem sh_sec {s : RS} (hf : Fits p s) (h : pk p s.1 = 45 → s.1 + 1 < p.size) : secS t (shP a s) = secS p s := by
  unfold secS
  by_cases hlt : s.1 < p.size
  · rw [sh_pk e hlt]
    by_cases h45 : pk p s.1 = 45
    · have := e.byte (s.1 + 1) (h h45)
      rw [show (shP a s).1 + 1 = a + (s.1 + 1) by simp only [shP]; omega, this]
    · have : (pk p s.1 == 45) = false := beq_eq_false_iff_ne.2 h45
      rw [this]; rfl
  · obtain ⟨h1, h2⟩ := sh_end e hlt hf
    rw [h1, h2]; rfl
theorem sh_item {s : RS} (hf : Fits p s) (h : (itemS p s).2.2 = false) (h45 : pk p (memS p s).2.1 = 45 → (memS p s).2.1 + 1 < p.size) :
    itemS t (shP a s) = ((itemS p s).1, shP a (itemS p s).2) ∧ s.2 = false := by
  have hfm := fits_mem hf
  unfold itemS at h ⊢
  simp only [] at h ⊢
  by_cases hlow : (highS p s).1 < (memS p s).1
  · rw [if_pos hlow] at h; exact nomatch (show true = false from h)
  · rw [if_neg hlow] at h ⊢
    unfold highS at h hlow ⊢
    by_cases hs : secS p (memS p s).2 = true
    · rw [if_pos hs] at h hlow
      obtain ⟨h1, _, h2⟩ := sh_mem e h
      have h2' : (memS p s).2.2 = false := h2
      obtain ⟨h3, _, h4⟩ := sh_mem e h2'
      rw [h3]
      simp only []
      rw [sh_sec e hfm h45, if_pos hs, if_pos hs]
      have h1' : memS t ((shP a (memS p s).2).1 + 1, (shP a (memS p s).2).2) = _ := h1
      rw [h1']
      simp only []
      rw [if_neg hlow]
      exact ⟨rfl, h4⟩
    · rw [if_neg hs] at h hlow
      obtain ⟨h3, _, h4⟩ := sh_mem e h
      rw [h3]
      simp only []
      rw [sh_sec e hfm h45, if_neg hs, if_neg hs]
      simp only []
      rw [if_neg hlow]
      exact ⟨rfl, h4⟩
end

theorem itemsF_bad (p : ByteArray) : ∀ (f : Nat) (s : RS) (acc : List (Int × Int)), (itemsF p f s acc).2.2 = false → s.2 = false
  | 0, s, acc, h => h
  | f + 1, s, acc, h => by
    rw [itemsF] at h
    split at h
    · have h1 := itemsF_bad p f _ _ h
      unfold itemS at h1
      simp only [] at h1
      split at h1
      · exact nomatch (show true = false from h1)
      · have hnext : ∀ s : RS, (nextS p s).2.2 = false → s.2 = false := fun s hs => by
          unfold nextS at hs; split at hs
          · exact nomatch (show true = false from hs)
          · exact hs
        have hmem : ∀ s : RS, (memS p s).2.2 = false → s.2 = false := fun s hs => by
          unfold memS at hs; split at hs
          · exact hnext _ (hnext _ hs)
          · exact hnext _ hs
        unfold highS at h1
        split at h1
        · have h2 := hmem _ h1
          exact hmem s h2
        · exact hmem _ h1
    · exact h

section
variable {p t : ByteArray} {a : Nat} (e : Emb p t a)
include e
theorem sh_items : ∀ (f g : Nat) (s : RS) (acc : List (Int × Int)), Fits p s → p.size - s.1 ≤ f → t.size - (a + s.1) ≤ g → (itemsF p f s acc).2.1 < p.size → (itemsF p f s acc).2.2 = false →
    itemsF t g (shP a s) acc = ((itemsF p f s acc).1, shP a (itemsF p f s acc).2)
  | 0, g, s, acc, hf, h1, h2, h3, h4 => by
    simp only [itemsF] at h3
    omega
  | f + 1, 0, s, acc, hf, h1, h2, h3, h4 => by
    have := emb_lt e
    simp only [Fits] at hf
    omega
  | f + 1, g + 1, s, acc, hf, h1, h2, h3, h4 => by
    have hge := itemsF_ge p (f + 1) s acc
    have hlt : s.1 < p.size := by omega
    have hq : itemQ t (shP a s) = itemQ p s := by unfold itemQ; rw [sh_pk e hlt]
    rw [itemsF] at h3 h4 ⊢
    rw [itemsF, hq]
    by_cases hi : itemQ p s = true
    · rw [if_pos hi] at h3 h4
      rw [if_pos hi, if_pos hi]
      have hgt := item_gt hlt
      have hgood := itemsF_bad p f _ _ h4
      have hge2 := itemsF_ge p f (itemS p s).2 (acc ++ [(itemS p s).1])
      have hfi := fits_item hf
      have h45 : pk p (memS p s).2.1 = 45 → (memS p s).2.1 + 1 < p.size := fun h45 => by
        by_cases hs : secS p (memS p s).2 = true
        · simp only [secS, Bool.and_eq_true, bne_iff_ne] at hs
          have := pk_bd p ((memS p s).2.1 + 1)
          exact pk_some (by omega)
        · -- the item ends here, and the sign stands first in the next one
          have hend : (itemS p s).2 = (memS p s).2 := by
            unfold itemS at hgood ⊢
            simp only [] at hgood ⊢
            split
            · rename_i hl; rw [if_pos hl] at hgood; exact nomatch (show true = false from hgood)
            · unfold highS; rw [if_neg hs]
          rw [hend] at h3 hge2 hgt
          have hml : (memS p s).2.1 < p.size := by omega
          obtain ⟨f', rfl⟩ : ∃ f', f = f' + 1 := ⟨f - 1, by omega⟩
          have hq2 : itemQ p (memS p s).2 = true := by
            unfold itemQ; rw [h45]; rfl
          rw [itemsF, if_pos hq2] at h3
          have h5 := item_gt hml
          have h6 := itemsF_ge p f' (itemS p (memS p s).2).2 (acc ++ [(itemS p s).1] ++ [(itemS p (memS p s).2).1])
          omega
      obtain ⟨h5, _⟩ := sh_item e hf hgood h45
      rw [h5]
      have hgt2 : s.1 < (itemS p s).2.1 := hgt
      exact sh_items f g (itemS p s).2 _ hfi (by omega) (by omega) h3 h4
    · rw [if_neg hi, if_neg hi]
theorem sh_dig {s : RS} (h : (digS p s).2.2 = false) : digS t (shP a s) = ((digS p s).1, shP a (digS p s).2) ∧ s.1 < p.size ∧ s.2 = false := by
  unfold digS at h ⊢
  by_cases hd : (nextS p s).1 < 48 ∨ 57 < (nextS p s).1
  · rw [if_pos hd] at h; exact nomatch (show true = false from h)
  · rw [if_neg hd] at h ⊢
    obtain ⟨h1, h2, h3⟩ := sh_next e h
    rw [h1]
    simp only []
    rw [if_neg hd]
    exact ⟨rfl, h2, h3⟩
theorem sh_up {s : RS} (hf : Fits p s) (h : (upS p s).2.2 = false) : upS t (shP a s) = ((upS p s).1, shP a (upS p s).2) ∧ s.2 = false := by
  unfold upS at h ⊢
  by_cases h125 : pk p s.1 = 125
  · have hlt : s.1 < p.size := pk_some (by omega)
    rw [if_pos h125] at h
    rw [sh_pk e hlt, if_pos h125, if_pos h125]
    exact ⟨rfl, h⟩
  · rw [if_neg h125] at h
    obtain ⟨h1, h2, h3⟩ := sh_dig e h
    rw [sh_pk e h2, if_neg h125, if_neg h125, h1]
    exact ⟨rfl, h3⟩
omit e in
theorem takeS_bad {c : Int} {s : RS} (h : (takeS p c s).2.2 = false) : s.2 = false := by
  unfold takeS at h; split at h <;> exact h
theorem sh_most {s : RS} (hf : Fits p s) (h : (mostS p s).2.2 = false) : mostS t (shP a s) = ((mostS p s).1, shP a (mostS p s).2) ∧ (digS p s).2.2 = false := by
  have hfd := fits_dig hf
  unfold mostS at h ⊢
  by_cases hc : (takeS p 44 (digS p s).2).1 = true
  · rw [if_pos hc] at h
    obtain ⟨h1, h2⟩ := sh_up e (fits_take (by omega) hfd) h
    have hd := takeS_bad h2
    obtain ⟨h3, _, _⟩ := sh_dig e hd
    rw [h3]
    simp only []
    rw [sh_take e (by omega) (by omega) hfd]
    simp only []
    rw [if_pos hc, if_pos hc, h1]
    exact ⟨rfl, hd⟩
  · rw [if_neg hc] at h
    have hd := takeS_bad h
    obtain ⟨h3, _, _⟩ := sh_dig e hd
    rw [h3]
    simp only []
    rw [sh_take e (by omega) (by omega) hfd]
    simp only []
    rw [if_neg hc, if_neg hc]
    exact ⟨rfl, hd⟩
theorem sh_braces {s : RS} (hf : Fits p s) (h : (bracesS p s).2.2 = false) : bracesS t (shP a s) = ((bracesS p s).1, shP a (bracesS p s).2) ∧ s.2 = false := by
  have hfm := fits_most hf
  unfold bracesS at h ⊢
  by_cases hc : (takeS p 125 (mostS p s).2).1 = false ∨ ((mostS p s).1 ≠ -1 ∧ (mostS p s).1 < (digS p s).1)
  · rw [if_pos hc] at h; exact nomatch (show true = false from h)
  · rw [if_neg hc] at h
    have hm := takeS_bad h
    obtain ⟨h1, h2⟩ := sh_most e hf hm
    obtain ⟨h3, _, h4⟩ := sh_dig e h2
    rw [h1, h3]
    simp only []
    rw [sh_take e (by omega) (by omega) hfm]
    simp only []
    rw [if_neg hc, if_neg hc]
    exact ⟨rfl, h4⟩
theorem sh_repeat {s : RS} (hf : Fits p s) (h : (repeatS p s).2.2 = false) : repeatS t (shP a s) = ((repeatS p s).1, shP a (repeatS p s).2) ∧ s.2 = false := by
  have hfn := fits_next (t := p) (s := s) hf
  have hn : (nextS p s).2.2 = false := by
    unfold repeatS at h
    repeat' split at h
    · exact h
    · exact h
    · exact h
    · exact (sh_braces e hfn h).2
  obtain ⟨h1, _, h2⟩ := sh_next e hn
  unfold repeatS at h ⊢
  rw [h1]
  simp only []
  by_cases c1 : (nextS p s).1 = 42
  · rw [if_pos c1, if_pos c1]; exact ⟨rfl, h2⟩
  · rw [if_neg c1, if_neg c1]
    rw [if_neg c1] at h
    by_cases c2 : (nextS p s).1 = 43
    · rw [if_pos c2, if_pos c2]; exact ⟨rfl, h2⟩
    · rw [if_neg c2, if_neg c2]
      rw [if_neg c2] at h
      by_cases c3 : (nextS p s).1 = 63
      · rw [if_pos c3, if_pos c3]; exact ⟨rfl, h2⟩
      · rw [if_neg c3, if_neg c3]
        rw [if_neg c3] at h
        exact ⟨(sh_braces e hfn h).1, h2⟩
end

end Go.Proofs.Ytgifhgnccmnbiaa

set_option linter.unusedVariables false
set_option linter.unusedSimpArgs false
namespace Go.Proofs.Ytgifhgnccmnbiaa

/-- A node k places further on in the list. -/
def shN (k : Nat) (n : AN) : AN :=
  { n with left := if n.kind = 4 ∨ n.kind = 5 ∨ n.kind = 6 then n.left + (k : Int) else n.left, right := if n.kind = 4 ∨ n.kind = 5 then n.right + (k : Int) else n.right }
def shL (pre ns : List AN) : List AN := pre ++ ns.map (shN pre.length)
def shSt (a : Nat) (pre : List AN) (st : PS) : PS := (shP a st.1, shL pre st.2)
def shR (a : Nat) (pre : List AN) (r : Nat × PS) : Nat × PS := (pre.length + r.1, shSt a pre r.2)

theorem sh_cap (k : Nat) (n : AN) : capN (shN k n) = shN k (capN n) := rfl
theorem sh_add (a : Nat) (pre : List AN) (n n' : AN) (st : PS) (h : n' = shN pre.length n) : addS n' (shSt a pre st) = shR a pre (addS n st) := by
  subst h
  simp only [addS, shR, shSt, shL, Prod.mk.injEq]
  refine ⟨by simp, trivial, ?_⟩
  rw [List.map_append, List.append_assoc]
  rfl
theorem sh_sizeAt (pre ns : List AN) (i : Nat) : sizeAt (shL pre ns) (pre.length + i) = sizeAt ns i := by
  unfold sizeAt shL
  rw [List.getElem?_append_right (by omega), show pre.length + i - pre.length = i by omega, List.getElem?_map]
  cases ns[i]? <;> rfl
theorem sh_join (a : Nat) (pre : List AN) {kind : Int} (hk : kind = 4 ∨ kind = 5) (l r : Nat) (st : PS) : joinS kind (pre.length + l) (pre.length + r) (shSt a pre st) = shR a pre (joinS kind l r st) := by
  unfold joinS
  refine sh_add a pre _ _ st ?_
  simp only [shN, shSt]
  rw [if_pos (by omega), if_pos hk, sh_sizeAt, sh_sizeAt]
  congr 1
  · simp; omega
  · simp; omega
theorem sh_again (a : Nat) (pre : List AN) (l : Nat) (lm : Int × Int) (st : PS) : againS (pre.length + l) lm (shSt a pre st) = shR a pre (againS l lm st) := by
  unfold againS
  refine sh_add a pre _ _ st ?_
  simp only [shN, shSt]
  rw [if_pos (show ((6 : Int) = 4 ∨ (6 : Int) = 5 ∨ True) from Or.inr (Or.inr trivial)), if_neg (show ¬ ((6 : Int) = 4 ∨ (6 : Int) = 5) by omega), sh_sizeAt]
  congr 1
  simp; omega
theorem sh_leaf (k : Nat) (n : AN) (h : n.kind = 0 ∨ n.kind = 1 ∨ n.kind = 2 ∨ n.kind = 3) : shN k n = n := by
  unfold shN
  rw [if_neg (by omega), if_neg (by omega)]

theorem next_bad {p : ByteArray} {s : RS} (hs : (nextS p s).2.2 = false) : s.2 = false := by
  unfold nextS at hs; split at hs
  · exact nomatch (show true = false from hs)
  · exact hs
theorem list_bad {p : ByteArray} {st : PS} (h : (listS p st).2.1.2 = false) : st.1.2 = false := by
  unfold listS at h
  simp only [addS] at h
  split at h
  · exact nomatch (show true = false from h)
  · exact takeS_bad (itemsF_bad p _ _ _ (takeS_bad h))
theorem plain_bad {p : ByteArray} {c : Int} {st : PS} (h : (plainS p c st).2.1.2 = false) : st.1.2 = false := by
  unfold plainS bytesS addS at h
  repeat' split at h
  all_goals first | exact h | exact next_bad h | exact nomatch (show true = false from h)
theorem repeat_bad {p : ByteArray} {s : RS} (h : (repeatS p s).2.2 = false) : s.2 = false := by
  have hb : ∀ s : RS, (bracesS p s).2.2 = false → s.2 = false := fun s hs => by
    have hd : ∀ s : RS, (digS p s).2.2 = false → s.2 = false := fun s hs => by
      unfold digS at hs; split at hs
      · exact nomatch (show true = false from hs)
      · exact next_bad hs
    unfold bracesS at hs; split at hs
    · exact nomatch (show true = false from hs)
    · have h1 := takeS_bad hs
      unfold mostS at h1; split at h1
      · unfold upS at h1; split at h1
        · exact hd _ (takeS_bad h1)
        · exact hd _ (takeS_bad (hd _ h1))
      · exact hd _ (takeS_bad h1)
  unfold repeatS at h
  repeat' split at h
  · exact next_bad h
  · exact next_bad h
  · exact next_bad h
  · exact next_bad (hb _ h)
theorem close_bad {p : ByteArray} {r : Nat × PS} (h : (closeS p r).2.1.2 = false) : (takeS p 41 r.2.1).1 = true ∧ r.2.1.2 = false := by
  unfold closeS at h
  simp only [] at h
  split at h
  · rename_i h1; exact ⟨h1, takeS_bad h⟩
  · exact nomatch (show true = false from h)

/-- What has failed stays failed. -/
theorem D.bad {p : ByteArray} {tag cur : Nat} {st : PS} {r : Nat × PS} (h : D p tag cur st r) : r.2.1.2 = false → st.1.2 = false := by
  induction h with
  | pattern _ _ a b => exact fun h => a (b h)
  | empty he => exact fun h => h
  | branch he _ _ a b => exact fun h => a (b h)
  | piece _ _ a b => exact fun h => a (b h)
  | group he _ a => exact fun h => next_bad (a (close_bad h).2)
  | list he => exact fun h => next_bad (list_bad (st := (_, _)) h)
  | plain h1 h2 => exact fun h => next_bad (plain_bad (st := (_, _)) h)
  | or he _ _ a b => exact fun h => takeS_bad (a (b h))
  | orEnd he => exact fun h => h
  | and he _ _ a b => exact fun h => a (b h)
  | andEnd he => exact fun h => h
  | rep he _ a => exact fun h => repeat_bad (a h)
  | repEnd he => exact fun h => h
theorem D.cur {p : ByteArray} {tag cur : Nat} {st : PS} {r : Nat × PS} (h : D p tag cur st r) (ht : tag < 4) (cur' : Nat) : D p tag cur' st r := by
  cases h with
  | pattern a b => exact D.pattern a b
  | empty he => exact D.empty he
  | branch he a b => exact D.branch he a b
  | piece a b => exact D.piece a b
  | group he a => exact D.group he a
  | list he => exact D.list he
  | plain h1 h2 => exact D.plain h1 h2
  | or => omega
  | orEnd => omega
  | and => omega
  | andEnd => omega
  | rep => omega
  | repEnd => omega

theorem listS_eq {t : ByteArray} {st : PS} {x : Bool × RS} {i : List (Int × Int) × RS} {c : Bool × RS} (h1 : takeS t 94 st.1 = x) (h2 : itemsS t x.2 [] = i) (h3 : takeS t 93 i.2 = c) :
    listS t st = addS { kind := 1, its := i.1, neg := x.1, size := 1 } (if c.1 = false ∨ i.1.length = 0 then failS t else c.2, st.2) := by
  subst h1; subst h2; subst h3; rfl
theorem closeS_eq {t : ByteArray} {r : Nat × PS} {c : Bool × RS} (h : takeS t 41 r.2.1 = c) : closeS t r = (r.1, (if c.1 = true then c.2 else failS t, r.2.2)) := by
  subst h; rfl
theorem take_true {p : ByteArray} {c : Int} {s : RS} (h : (takeS p c s).1 = true) : pk p s.1 = c := by
  unfold takeS at h
  split at h
  · assumption
  · cases h

section
variable {p t : ByteArray} {a : Nat} (e : Emb p t a) (pre : List AN)
include e
theorem sh_list {st : PS} (hf : Fits p st.1) (h : (listS p st).2.1.2 = false) : listS t (shSt a pre st) = shR a pre (listS p st) := by
  have hf1 := fits_take (t := p) (c := 94) (by omega) hf
  have ht1 := sh_take e (c := 94) (by omega) (by omega) hf
  rw [listS_eq (t := p) (st := st) rfl rfl rfl] at h
  simp only [addS] at h
  by_cases hc : (takeS p 93 (itemsS p (takeS p 94 st.1).2 []).2).1 = false ∨ (itemsS p (takeS p 94 st.1).2 []).1.length = 0
  · rw [if_pos hc] at h; exact nomatch (show true = false from h)
  · rw [if_neg hc] at h
    have hc1 : (takeS p 93 (itemsS p (takeS p 94 st.1).2 []).2).1 = true := by
      cases hx : (takeS p 93 (itemsS p (takeS p 94 st.1).2 []).2).1 with
      | true => rfl
      | false => exact absurd (Or.inl hx) hc
    have hin : (itemsS p (takeS p 94 st.1).2 []).2.1 < p.size := pk_some (by rw [take_true hc1]; omega)
    have hgood := takeS_bad h
    have hit : itemsS t (shP a (takeS p 94 st.1).2) [] = ((itemsS p (takeS p 94 st.1).2 []).1, shP a (itemsS p (takeS p 94 st.1).2 []).2) := by
      unfold itemsS at hin hgood ⊢
      exact sh_items e _ _ _ _ hf1 (Nat.le_refl _) (Nat.le_refl _) hin hgood
    have hfi : Fits p (itemsS p (takeS p 94 st.1).2 []).2 := Nat.le_of_lt hin
    have ht2 := sh_take e (c := 93) (by omega) (by omega) hfi
    have hL : (listS t (shSt a pre st)) = addS { kind := 1, its := (itemsS p (takeS p 94 st.1).2 []).1, neg := (takeS p 94 st.1).1, size := 1 } (if (takeS p 93 (itemsS p (takeS p 94 st.1).2 []).2).1 = false ∨ (itemsS p (takeS p 94 st.1).2 []).1.length = 0 then failS t else shP a (takeS p 93 (itemsS p (takeS p 94 st.1).2 []).2).2, shL pre st.2) :=
      listS_eq (st := shSt a pre st) ht1 hit ht2
    have hR := listS_eq (t := p) (st := st) rfl rfl rfl
    rw [hL, hR, if_neg hc, if_neg hc]
    exact sh_add a pre _ _ ((takeS p 93 (itemsS p (takeS p 94 st.1).2 []).2).2, st.2) (sh_leaf _ _ (Or.inr (Or.inl rfl))).symm
theorem sh_plain {c : Int} {st : PS} (h : (plainS p c st).2.1.2 = false) : plainS t c (shSt a pre st) = shR a pre (plainS p c st) := by
  unfold plainS at h ⊢
  by_cases c1 : c = 46
  · rw [if_pos c1, if_pos c1]; exact sh_add a pre _ _ st (sh_leaf _ _ (Or.inr (Or.inl rfl))).symm
  rw [if_neg c1] at h; rw [if_neg c1, if_neg c1]
  by_cases c2 : c = 94
  · rw [if_pos c2, if_pos c2]; exact sh_add a pre _ _ st (sh_leaf _ _ (Or.inr (Or.inr (Or.inl rfl)))).symm
  rw [if_neg c2] at h; rw [if_neg c2, if_neg c2]
  by_cases c3 : c = 36
  · rw [if_pos c3, if_pos c3]; exact sh_add a pre _ _ st (sh_leaf _ _ (Or.inr (Or.inr (Or.inr rfl)))).symm
  rw [if_neg c3] at h; rw [if_neg c3, if_neg c3]
  by_cases c4 : c = 92
  · rw [if_pos c4] at h
    rw [if_pos c4, if_pos c4]
    have hn : (nextS p st.1).2.2 = false := h
    obtain ⟨h1, _, _⟩ := sh_next e hn
    simp only [shSt]
    rw [h1]
    exact sh_add a pre _ _ ((nextS p st.1).2, st.2) (sh_leaf _ _ (Or.inr (Or.inl rfl))).symm
  rw [if_neg c4] at h; rw [if_neg c4, if_neg c4]
  by_cases c5 : c = 41 ∨ c = 124 ∨ c = 42 ∨ c = 43 ∨ c = 63 ∨ c = 123
  · rw [if_pos c5] at h; exact nomatch (show true = false from h)
  · rw [if_neg c5, if_neg c5]; exact sh_add a pre _ _ st (sh_leaf _ _ (Or.inr (Or.inl rfl))).symm

/-- THE SAME DERIVATION, FURTHER ON. -/
theorem D.shift {tag cur : Nat} {st : PS} {r : Nat × PS} (h : D p tag cur st r) : Fits p st.1 → r.2.1.2 = false → D t tag (pre.length + cur) (shSt a pre st) (shR a pre r) := by
  induction h with
  | pattern d1 d2 x y =>
    intro hf hg
    have f1 := (d1.fw hf).fit
    exact D.pattern ((x hf (d2.bad hg)).cur (by omega) 0) (y f1 hg)
  | @empty cur st he =>
    intro hf hg
    rw [← sh_add a pre { kind := 0, size := 1 } _ st (sh_leaf _ _ (Or.inl rfl)).symm]
    exact D.empty (by rw [← he]; exact sh_endS e hf)
  | @branch cur st r1 r he d1 d2 x y =>
    intro hf hg
    have f1 := (d1.fw hf).fit
    exact D.branch (by rw [← he]; exact sh_endS e hf) ((x hf (d2.bad hg)).cur (by omega) 0) (y f1 hg)
  | piece d1 d2 x y =>
    intro hf hg
    have f1 := (d1.fw hf).fit
    exact D.piece ((x hf (d2.bad hg)).cur (by omega) 0) (y f1 hg)
  | @group cur st r1 he d1 x =>
    intro hf hg
    obtain ⟨h1, h2⟩ := close_bad hg
    have hb := d1.bad h2
    obtain ⟨h3, _, _⟩ := sh_next e (s := st.1) hb
    have h4 : closeS t (shR a pre r1) = shR a pre (closeS p r1) := by
      have hc := closeS_eq (t := t) (r := shR a pre r1) (sh_take41 e h1)
      have hd := closeS_eq (t := p) (r := r1) rfl
      rw [hc, hd, h1]
      rfl
    rw [← h4]
    refine D.group (by show (nextS t (shP a st.1)).1 = 40; rw [h3]; exact he) ?_
    have h5 := (x (fits_next hf) h2).cur (by omega) 0
    show D t 0 0 ((nextS t (shP a st.1)).2, _) _
    rw [h3]
    exact h5
  | @list cur st he =>
    intro hf hg
    have hb := list_bad (st := ((nextS p st.1).2, st.2)) hg
    obtain ⟨h3, _, _⟩ := sh_next e (s := st.1) hb
    rw [← sh_list e pre (st := ((nextS p st.1).2, st.2)) (fits_next hf) hg]
    have h6 : shSt a pre ((nextS p st.1).2, st.2) = ((nextS t (shSt a pre st).1).2, (shSt a pre st).2) := by
      show _ = ((nextS t (shP a st.1)).2, _); rw [h3]; rfl
    rw [h6]
    exact D.list (by show (nextS t (shP a st.1)).1 = 91; rw [h3]; exact he)
  | @plain cur st h1 h2 =>
    intro hf hg
    have hb := plain_bad (st := ((nextS p st.1).2, st.2)) hg
    obtain ⟨h3, _, _⟩ := sh_next e (s := st.1) hb
    rw [← sh_plain e pre (st := ((nextS p st.1).2, st.2)) hg]
    have h6 : shSt a pre ((nextS p st.1).2, st.2) = ((nextS t (shSt a pre st).1).2, (shSt a pre st).2) := by
      show _ = ((nextS t (shP a st.1)).2, _); rw [h3]; rfl
    have h7 : (nextS p st.1).1 = (nextS t (shSt a pre st).1).1 := by show _ = (nextS t (shP a st.1)).1; rw [h3]
    rw [h6, h7]
    exact D.plain (by rw [← h7]; exact h1) (by rw [← h7]; exact h2)
  | @or cur st r1 r he d1 d2 x y =>
    intro hf hg
    have hft := fits_take (t := p) (c := 124) (by omega) hf
    have f1 := (d1.fw hft).fit
    have h3 := sh_take e (c := 124) (by omega) (by omega) hf
    have hx := (x hft (d2.bad hg)).cur (by omega) 0
    have hy := y f1 hg
    have hj := sh_join a pre (kind := 5) (Or.inr rfl) cur r1.1 r1.2
    refine D.or (r1 := shR a pre r1) (by show (takeS t 124 (shP a st.1)).1 = true; rw [h3]; exact he) ?_ ?_
    · show D t 1 0 ((takeS t 124 (shP a st.1)).2, _) _
      rw [h3]; exact hx
    · show D t 4 (joinS 5 (pre.length + cur) (pre.length + r1.1) (shSt a pre r1.2)).1 (joinS 5 (pre.length + cur) (pre.length + r1.1) (shSt a pre r1.2)).2 _
      rw [hj]; exact hy
  | @orEnd cur st he =>
    intro hf hg
    have h3 := sh_take e (c := 124) (by omega) (by omega) hf
    exact D.orEnd (by show (takeS t 124 (shP a st.1)).1 = false; rw [h3]; exact he)
  | @and cur st r1 r he d1 d2 x y =>
    intro hf hg
    have f1 := (d1.fw hf).fit
    have hx := (x hf (d2.bad hg)).cur (by omega) 0
    have hy := y f1 hg
    have hj := sh_join a pre (kind := 4) (Or.inl rfl) cur r1.1 r1.2
    refine D.and (r1 := shR a pre r1) (by rw [← he]; exact sh_endS e hf) hx ?_
    show D t 5 (joinS 4 (pre.length + cur) (pre.length + r1.1) (shSt a pre r1.2)).1 (joinS 4 (pre.length + cur) (pre.length + r1.1) (shSt a pre r1.2)).2 _
    rw [hj]; exact hy
  | @andEnd cur st he =>
    intro hf hg
    exact D.andEnd (by rw [← he]; exact sh_endS e hf)
  | @rep cur st r he d x =>
    intro hf hg
    have hb := d.bad hg
    obtain ⟨h3, _⟩ := sh_repeat e hf hb
    have hx := x (fits_repeat hf) hg
    have hj := sh_again a pre cur (repeatS p st.1).1 ((repeatS p st.1).2, st.2)
    have h6 : shSt a pre ((repeatS p st.1).2, st.2) = ((repeatS t (shSt a pre st).1).2, (shSt a pre st).2) := by
      show _ = ((repeatS t (shP a st.1)).2, _); rw [h3]; rfl
    have h7 : (repeatS p st.1).1 = (repeatS t (shSt a pre st).1).1 := by show _ = (repeatS t (shP a st.1)).1; rw [h3]
    refine D.rep (by rw [← he]; exact sh_repS e hf) ?_
    rw [← h6, ← h7, hj]
    exact hx
  | @repEnd cur st he =>
    intro hf hg
    exact D.repEnd (by rw [← he]; exact sh_repS e hf)
end

end Go.Proofs.Ytgifhgnccmnbiaa

set_option linter.unusedVariables false
set_option linter.unusedSimpArgs false
namespace Go.Proofs.Ytgifhgnccmnbiaa

/-- So many times, one behind the other. -/
def PowM (n : Nat) (R : Nat → Nat → Prop) : Nat → Nat → Nat → Prop
  | 0, i, j => i = j ∧ i ≤ n
  | c + 1, i, j => ∃ m, PowM n R c i m ∧ R m j
theorem PowM.congr {n : Nat} {R R' : Nat → Nat → Prop} (h : ∀ i j, R i j ↔ R' i j) : ∀ c i j, PowM n R c i j ↔ PowM n R' c i j
  | 0, i, j => Iff.rfl
  | c + 1, i, j => by
    simp only [PowM]
    constructor
    · rintro ⟨m, h1, h2⟩; exact ⟨m, (PowM.congr h c i m).1 h1, (h m j).1 h2⟩
    · rintro ⟨m, h1, h2⟩; exact ⟨m, (PowM.congr h c i m).2 h1, (h m j).2 h2⟩

section
variable {ns : List AN} {fold : Bool} {t : ByteArray} {k : Nat} {n : AN} {i j : Nat}
theorem Mat.le (h : Mat ns fold t k i j) : i ≤ t.size ∧ j ≤ t.size ∧ i ≤ j := by
  obtain ⟨u, _, h⟩ := h; exact h.le
theorem Mat.zero (hn : ns[k]? = some n) (hk : n.kind = 0) : Mat ns fold t k i j ↔ i = j ∧ i ≤ t.size := by
  constructor
  · rintro ⟨u, h1, h2⟩
    have := (W.zero hn hk).1 h1
    subst this; exact h2
  · rintro h; exact ⟨[], (W.zero hn hk).2 rfl, h⟩
theorem Mat.one (hn : ns[k]? = some n) (hk : n.kind = 1 ∨ n.kind = 2 ∨ n.kind = 3) : Mat ns fold t k i j ↔ Go1 ns fold t k i j := by
  constructor
  · rintro ⟨u, h1, h2⟩
    have := (W.one hn hk).1 h1
    subst this
    obtain ⟨m, h3, rfl, _⟩ := h2
    exact h3
  · intro h
    refine ⟨[k], (W.one hn hk).2 rfl, j, h, rfl, ?_⟩
    obtain ⟨n', _, ⟨_, rfl, h3, _⟩ | ⟨_, rfl, rfl⟩ | ⟨_, rfl, rfl⟩⟩ := h <;> omega
theorem Mat.two (hn : ns[k]? = some n) (hk : n.kind = 4) {l r : Nat} (hl : n.left = (l : Int)) (hr : n.right = (r : Int)) : Mat ns fold t k i j ↔ ∃ m, Mat ns fold t l i m ∧ Mat ns fold t r m j := by
  constructor
  · rintro ⟨u, h1, h2⟩
    obtain ⟨x, y, rfl, h3, h4⟩ := (W.two hn hk hl hr).1 h1
    obtain ⟨m, h5, h6⟩ := Tr.app.1 h2
    exact ⟨m, ⟨x, h3, h5⟩, ⟨y, h4, h6⟩⟩
  · rintro ⟨m, ⟨x, h3, h5⟩, ⟨y, h4, h6⟩⟩
    exact ⟨x ++ y, (W.two hn hk hl hr).2 ⟨x, y, rfl, h3, h4⟩, Tr.app.2 ⟨m, h5, h6⟩⟩
theorem Mat.alt (hn : ns[k]? = some n) (hk : n.kind = 5) {l r : Nat} (hl : n.left = (l : Int)) (hr : n.right = (r : Int)) : Mat ns fold t k i j ↔ Mat ns fold t l i j ∨ Mat ns fold t r i j := by
  constructor
  · rintro ⟨u, h1, h2⟩
    rcases (W.alt hn hk hl hr).1 h1 with h | h
    · exact Or.inl ⟨u, h, h2⟩
    · exact Or.inr ⟨u, h, h2⟩
  · rintro (⟨u, h1, h2⟩ | ⟨u, h1, h2⟩)
    · exact ⟨u, (W.alt hn hk hl hr).2 (Or.inl h1), h2⟩
    · exact ⟨u, (W.alt hn hk hl hr).2 (Or.inr h1), h2⟩
theorem pow_many (l : Nat) : ∀ c i j, (∃ u, Many (W ns l) c u ∧ Tr ns fold t u i j) ↔ PowM t.size (Mat ns fold t l) c i j
  | 0, i, j => by
    simp only [PowM]
    constructor
    · rintro ⟨u, h1, h2⟩
      have := (many_zero _ _).1 h1
      subst this; exact h2
    · intro h; exact ⟨[], (many_zero _ _).2 rfl, h⟩
  | c + 1, i, j => by
    simp only [PowM]
    constructor
    · rintro ⟨u, h1, h2⟩
      obtain ⟨x, y, rfl, h3, h4⟩ := (many_succ _ _ _).1 h1
      obtain ⟨m, h5, h6⟩ := Tr.app.1 h2
      exact ⟨m, (pow_many l c i m).1 ⟨x, h3, h5⟩, ⟨y, h4, h6⟩⟩
    · rintro ⟨m, h1, ⟨y, h4, h6⟩⟩
      obtain ⟨x, h3, h5⟩ := (pow_many l c i m).2 h1
      exact ⟨x ++ y, (many_succ _ _ _).2 ⟨x, y, rfl, h3, h4⟩, Tr.app.2 ⟨m, h5, h6⟩⟩
theorem Mat.many (hn : ns[k]? = some n) (hk : n.kind = 6) {l : Nat} (hl : n.left = (l : Int)) : Mat ns fold t k i j ↔ ∃ c, n.least ≤ ((c : Nat) : Int) ∧ (n.most = -1 ∨ (c : Int) ≤ n.most) ∧ PowM t.size (Mat ns fold t l) c i j := by
  constructor
  · rintro ⟨u, h1, h2⟩
    obtain ⟨c, h3, h4, h5⟩ := (W.many hn hk hl).1 h1
    exact ⟨c, h3, h4, (pow_many l c i j).1 ⟨u, h5, h2⟩⟩
  · rintro ⟨c, h3, h4, h5⟩
    obtain ⟨u, h6, h7⟩ := (pow_many l c i j).2 h5
    exact ⟨u, (W.many hn hk hl).2 ⟨c, h3, h4, h6⟩, h7⟩
end

/-- The list ns stands in ms, k places further on. -/
def In (ns ms : List AN) (k : Nat) : Prop := ∀ i n, ns[i]? = some n → ms[k + i]? = some (shN k n)
theorem in_shL (pre ns more : List AN) : In ns (shL pre ns ++ more) pre.length := fun i n hn => by
  have hi := (List.getElem?_eq_some_iff.1 hn).1
  unfold shL
  rw [List.getElem?_append_left (by simp; omega), List.getElem?_append_right (by omega), show pre.length + i - pre.length = i by omega, List.getElem?_map, hn]
  rfl
theorem go_emb {ns ms : List AN} {k : Nat} (he : In ns ms k) {fold : Bool} {t : ByteArray} {b : Nat} (hb : b < ns.length) (i j : Nat) : Go1 ms fold t (k + b) i j ↔ Go1 ns fold t b i j := by
  obtain ⟨n, hn⟩ : ∃ n, ns[b]? = some n := ⟨_, List.getElem?_eq_getElem hb⟩
  have hm := he b n hn
  unfold Go1
  rw [hn, hm]
  simp only [Option.some.injEq, exists_eq_left']
  exact Iff.rfl
theorem Mat.emb {ns ms : List AN} {k : Nat} (hok : NodesOk ns) (he : In ns ms k) (fold : Bool) (t : ByteArray) : ∀ m b, b < m → b < ns.length → ∀ i j, Mat ms fold t (k + b) i j ↔ Mat ns fold t b i j
  | 0, _, h, _, _, _ => by omega
  | m + 1, b, hbm, hb, i, j => by
    obtain ⟨n, hn⟩ : ∃ n, ns[b]? = some n := ⟨_, List.getElem?_eq_getElem hb⟩
    have hm := he b n hn
    obtain ⟨_, _, _, h4⟩ := hok b n hn
    have hkind : (shN k n).kind = n.kind := rfl
    rcases h4 with ⟨hk, _⟩ | ⟨hk, l, r, hlq, hrq, hl, hr, _⟩ | ⟨hk, l, hlq, hl, hr, _⟩
    · by_cases h0 : n.kind = 0
      · rw [Mat.zero hm h0, Mat.zero hn h0]
      · rw [Mat.one hm (by rw [hkind]; omega), Mat.one hn (by omega)]
        exact go_emb he hb i j
    · have hl2 : (shN k n).left = ((k + l : Nat) : Int) := by simp only [shN]; rw [if_pos (by omega), hl]; omega
      have hr2 : (shN k n).right = ((k + r : Nat) : Int) := by simp only [shN]; rw [if_pos hk, hr]; omega
      have il := fun i j => Mat.emb hok he fold t m l (by omega) (by omega) i j
      have ir := fun i j => Mat.emb hok he fold t m r (by omega) (by omega) i j
      rcases hk with hk | hk
      · rw [Mat.two hm hk hl2 hr2, Mat.two hn hk hl hr]
        simp only [il, ir]
      · rw [Mat.alt hm hk hl2 hr2, Mat.alt hn hk hl hr]
        simp only [il, ir]
    · have hl2 : (shN k n).left = ((k + l : Nat) : Int) := by simp only [shN]; rw [if_pos (by omega), hl]; omega
      have il := fun i j => Mat.emb hok he fold t m l (by omega) (by omega) i j
      rw [Mat.many hm hk hl2, Mat.many hn hk hl]
      constructor
      · rintro ⟨c, h1, h2, h3⟩; exact ⟨c, h1, h2, (PowM.congr il c i j).1 h3⟩
      · rintro ⟨c, h1, h2, h3⟩; exact ⟨c, h1, h2, (PowM.congr il c i j).2 h3⟩

end Go.Proofs.Ytgifhgnccmnbiaa

set_option linter.unusedVariables false
set_option linter.unusedSimpArgs false
namespace Go.Proofs.Ytgifhgnccmnbiaa

theorem pk_left {x y : ByteArray} {i : Nat} (h : i < x.size) : pk (x ++ y) i = pk x i := by
  rw [pk_lt h, pk_lt (by rw [ByteArray.size_append]; omega), ByteArray.getElem_append_left h]
theorem pk_right (x y : ByteArray) (i : Nat) : pk (x ++ y) (x.size + i) = pk y i := by
  by_cases h : i < y.size
  · rw [pk_lt h, pk_lt (by rw [ByteArray.size_append]; omega), ByteArray.getElem_append_right (by omega)]
    simp only [show x.size + i - x.size = i by omega]
  · rw [pk_ge h, pk_ge (by rw [ByteArray.size_append]; omega)]
theorem emb_of (x p y : ByteArray) (hy : pk y 0 = 41) : Emb p ((x ++ p) ++ y) x.size := by
  refine ⟨fun i hi => ?_, ?_⟩
  · rw [pk_left (by rw [ByteArray.size_append]; omega)]; exact pk_right x p i
  · have := pk_right (x ++ p) y 0
    rw [ByteArray.size_append, Nat.add_zero] at this
    rw [this]; exact hy
theorem Emb.more {p t : ByteArray} {a : Nat} (e : Emb p t a) (z : ByteArray) : Emb p (t ++ z) a := by
  have h := emb_lt e
  exact ⟨fun i hi => by rw [pk_left (by omega)]; exact e.byte i hi, by rw [pk_left h]; exact e.stop⟩

theorem PatOk.deriv {p : ByteArray} {r : Nat × PS} (h : PatOk p r) : D p 0 0 st0 r := h.ev.deriv (Nat.zero_le _)
theorem PatOk.pos {p : ByteArray} {r : Nat × PS} (h : PatOk p r) : r.2.1 = (p.size, false) := by
  have hb : r.2.1.2 = false := by
    cases hc : r.2.1.2 with
    | false => rfl
    | true => exact absurd (Or.inl hc) h.good
  have hp : ¬ r.2.1.1 < p.size := fun hc => h.good (Or.inr hc)
  have hf : r.2.1.1 ≤ p.size := (h.deriv.fw (Nat.zero_le _)).fit
  have he : r.2.1.1 = p.size := by omega
  exact Prod.ext he hb

/-- A pattern in brackets. -/
theorem grp {p t : ByteArray} {a : Nat} (hpk : pk t a = 40) (e : Emb p t (a + 1)) {r : Nat × PS} (h : PatOk p r) (pre : List AN) (cur : Nat) :
    D t 3 cur ((a, false), pre) (pre.length + r.1, ((a + p.size + 2, false), shL pre r.2.2)) := by
  have hd := (h.deriv.shift e pre (Nat.zero_le _) (by rw [h.pos])).cur (by omega) 0
  have hs : shSt (a + 1) pre st0 = ((a + 1, false), pre) := by simp [shSt, shP, shL, st0]
  rw [hs] at hd
  have hn : nextS t (a, false) = (40, (a + 1, false)) := by unfold nextS; rw [hpk, if_neg (by omega)]
  have hc : takeS t 41 (shR (a + 1) pre r).2.1 = (true, (a + p.size + 2, false)) := by
    simp only [shR, shSt, shP]
    rw [h.pos]
    unfold takeS
    simp only []
    rw [e.stop, if_pos rfl]
    simp only [Prod.mk.injEq, true_and, and_true]
    omega
  have hg := D.group (t := t) (cur := cur) (st := ((a, false), pre)) (r1 := shR (a + 1) pre r) (by show (nextS t (a, false)).1 = 40; rw [hn]) (by show D t 0 0 ((nextS t (a, false)).2, pre) _; rw [hn]; exact hd)
  rw [closeS_eq hc] at hg
  exact hg

theorem st_rep {t : ByteArray} {a : Nat} {c : Int} (h : pk t a = c) (hc : c ≠ 42 ∧ c ≠ 43 ∧ c ≠ 63 ∧ c ≠ 123) : repS t (a, false) = false := by
  unfold repS
  simp only [h]
  simp [hc.1, hc.2.1, hc.2.2.1, hc.2.2.2]

def bOpen : ByteArray := ⟨#[40]⟩
def bMid : ByteArray := ⟨#[41, 124, 40]⟩
def bShut : ByteArray := ⟨#[41]⟩
/-- (p)|(q) -/
def eitherT (p q : ByteArray) : ByteArray := (((bOpen ++ p) ++ bMid) ++ q) ++ bShut
theorem eitherT_size (p q : ByteArray) : (eitherT p q).size = p.size + q.size + 5 := by
  unfold eitherT
  simp only [ByteArray.size_append]
  have h1 : bOpen.size = 1 := rfl
  have h2 : bMid.size = 3 := rfl
  have h3 : bShut.size = 1 := rfl
  omega

/-- What is read of it: the nodes of both, and one that stands for either. -/
def eitherR (p q : ByteArray) (rp rq : Nat × PS) : Nat × PS :=
  joinS 5 (0 + rp.1) ((shL [] rp.2.2).length + rq.1) (((eitherT p q).size, false), shL (shL [] rp.2.2) rq.2.2)

theorem either_deriv {p q : ByteArray} {rp rq : Nat × PS} (hp : PatOk p rp) (hq : PatOk q rq) : D (eitherT p q) 0 0 st0 (eitherR p q rp rq) := by
  have h1 : bOpen.size = 1 := rfl
  have h2 : bMid.size = 3 := rfl
  have h3 : bShut.size = 1 := rfl
  have hX : ((bOpen ++ p) ++ bMid).size = p.size + 4 := by simp only [ByteArray.size_append]; omega
  have hXq : (((bOpen ++ p) ++ bMid) ++ q).size = p.size + q.size + 4 := by simp only [ByteArray.size_append]; omega
  have hop : (bOpen ++ p).size = p.size + 1 := by rw [ByteArray.size_append]; omega
  have ep : Emb p (eitherT p q) (0 + 1) := by
    have := ((emb_of bOpen p bMid (by decide)).more q).more bShut
    rw [h1] at this
    exact this
  have eq : Emb q (eitherT p q) (p.size + 3 + 1) := by
    have := emb_of ((bOpen ++ p) ++ bMid) q bShut (by decide)
    rw [hX] at this
    exact this
  have k0 : pk (eitherT p q) 0 = 40 := by
    unfold eitherT
    rw [pk_left (by omega), pk_left (by omega), pk_left (by omega), pk_left (by omega)]
    rfl
  have kmid : ∀ i, i < 3 → pk (eitherT p q) (p.size + 1 + i) = pk bMid i := fun i hi => by
    unfold eitherT
    rw [pk_left (by omega), pk_left (by omega)]
    have := pk_right (bOpen ++ p) bMid i
    rw [hop] at this
    exact this
  have k2 : pk (eitherT p q) (p.size + 2) = 124 := by have := kmid 1 (by omega); rw [show p.size + 1 + 1 = p.size + 2 by omega] at this; rw [this]; rfl
  have k3 : pk (eitherT p q) (p.size + 3) = 40 := by have := kmid 2 (by omega); rw [show p.size + 1 + 2 = p.size + 3 by omega] at this; rw [this]; rfl
  have kend : pk (eitherT p q) (p.size + q.size + 5) = -1 := by rw [pk_none, eitherT_size]; omega
  -- the one
  have g1 := grp k0 ep hp [] 0
  rw [show 0 + p.size + 2 = p.size + 2 by omega] at g1
  have d1 : D (eitherT p q) 1 0 st0 (0 + rp.1, ((p.size + 2, false), shL [] rp.2.2)) := by
    refine D.branch (by unfold endS; simp only [st0, k0]; rfl) (D.piece g1 (D.repEnd (st_rep k2 (by omega)))) (D.andEnd ?_)
    unfold endS; simp only [k2]; rfl
  -- the other
  have g2 := grp k3 eq hq (shL [] rp.2.2) 0
  rw [show p.size + 3 + q.size + 2 = p.size + q.size + 5 by omega] at g2
  have d2 : D (eitherT p q) 1 0 ((p.size + 3, false), shL [] rp.2.2) ((shL [] rp.2.2).length + rq.1, ((p.size + q.size + 5, false), shL (shL [] rp.2.2) rq.2.2)) := by
    refine D.branch (by unfold endS; simp only [k3]; rfl) (D.piece g2 (D.repEnd (st_rep kend (by omega)))) (D.andEnd ?_)
    unfold endS; simp only [kend]; rfl
  have ht : takeS (eitherT p q) 124 (p.size + 2, false) = (true, (p.size + 3, false)) := by unfold takeS; rw [k2, if_pos rfl]
  have he : eitherR p q rp rq = joinS 5 (0 + rp.1) ((shL [] rp.2.2).length + rq.1) ((p.size + q.size + 5, false), shL (shL [] rp.2.2) rq.2.2) := by unfold eitherR; rw [eitherT_size]
  rw [he]
  refine D.pattern d1 (D.or (by show (takeS (eitherT p q) 124 (p.size + 2, false)).1 = true; rw [ht]) (by show D _ 1 0 ((takeS (eitherT p q) 124 (p.size + 2, false)).2, _) _; rw [ht]; exact d2) (D.orEnd ?_))
  show (takeS (eitherT p q) 124 (p.size + q.size + 5, false)).1 = false
  unfold takeS; rw [kend, if_neg (by omega)]

/-- What is known of a composed pattern: its size, and what it matches. -/
theorem either_facts {p q : ByteArray} {rp rq : Nat × PS} (hp : PatOk p rp) (hq : PatOk q rq) :
    Ev (eitherT p q) 0 0 st0 (eitherR p q rp rq) ∧ ¬ BadR (eitherT p q) (eitherR p q rp rq) ∧
    sizeAt (eitherR p q rp rq).2.2 (eitherR p q rp rq).1 = (if 61 < sizeAt rp.2.2 rp.1 + sizeAt rq.2.2 rq.1 then 61 else sizeAt rp.2.2 rp.1 + sizeAt rq.2.2 rq.1) ∧
    ∀ fold l i j, Mat (eitherR p q rp rq).2.2 fold l (eitherR p q rp rq).1 i j ↔ Mat rp.2.2 fold l rp.1 i j ∨ Mat rq.2.2 fold l rq.1 i j := by
  have op := hp.okay
  have oq := hq.okay
  have tp := op.top
  have tq := oq.top
  have e1 : shL [] rp.2.2 = [] ++ rp.2.2.map (shN 0) := rfl
  have s1 : sizeAt (shL (shL [] rp.2.2) rq.2.2) (0 + rp.1) = sizeAt rp.2.2 rp.1 := by
    show sizeAt (shL [] rp.2.2 ++ _) _ = _
    rw [sizeN_app (by simp [shL]; omega)]
    exact sh_sizeAt [] rp.2.2 rp.1
  have s2 := sh_sizeAt (shL [] rp.2.2) rq.2.2 rq.1
  have i1 : In rp.2.2 (eitherR p q rp rq).2.2 0 := by
    have := in_shL [] rp.2.2 (rq.2.2.map (shN (shL [] rp.2.2).length) ++ [capN { kind := 5, left := ((0 + rp.1 : Nat) : Int), right := (((shL [] rp.2.2).length + rq.1 : Nat) : Int), size := sizeAt (shL (shL [] rp.2.2) rq.2.2) (0 + rp.1) + sizeAt (shL (shL [] rp.2.2) rq.2.2) ((shL [] rp.2.2).length + rq.1) }])
    rw [← List.append_assoc] at this
    exact this
  have i2 : In rq.2.2 (eitherR p q rp rq).2.2 (shL [] rp.2.2).length := in_shL (shL [] rp.2.2) rq.2.2 _
  have hroot : (eitherR p q rp rq).2.2[(eitherR p q rp rq).1]? = some (capN { kind := 5, left := ((0 + rp.1 : Nat) : Int), right := (((shL [] rp.2.2).length + rq.1 : Nat) : Int), size := sizeAt (shL (shL [] rp.2.2) rq.2.2) (0 + rp.1) + sizeAt (shL (shL [] rp.2.2) rq.2.2) ((shL [] rp.2.2).length + rq.1) }) := by
    simp [eitherR, joinS, addS]
  refine ⟨(either_deriv hp hq).ev, ?_, ?_, fun fold l i j => ?_⟩
  · rintro (h | h)
    · exact nomatch (show false = true from h)
    · exact absurd (show (eitherT p q).size < (eitherT p q).size from h) (Nat.lt_irrefl _)
  · unfold sizeAt
    rw [hroot]
    simp only [Option.map_some, Option.getD_some, capN]
    rw [s1, s2]
    rfl
  · rw [Mat.alt hroot rfl rfl rfl]
    rw [Mat.emb op.ok i1 fold l (rp.1 + 1) rp.1 (by omega) (by omega), Mat.emb oq.ok i2 fold l (rq.1 + 1) rq.1 (by omega) (by omega)]

end Go.Proofs.Ytgifhgnccmnbiaa
