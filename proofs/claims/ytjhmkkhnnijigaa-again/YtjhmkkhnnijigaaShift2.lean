/- The reader on a pattern that stands in brackets within a greater one: the same derivation, the same nodes further on in the list. No Go in it. -/
import Derived.Test.YtjhmkkhnnijigaaShift
import Derived.Test.YtjhmkkhnnijigaaReadyOf
set_option linter.unusedVariables false
set_option linter.unusedSimpArgs false
namespace Go.Proofs.Ytjhmkkhnnijigaa

/-- A node k places further on in the list. -/
def shN (k : Nat) (n : AN) : AN :=
  { n with left := if n.kind = 4 ∨ n.kind = 5 ∨ n.kind = 6 then n.left + (k : Int) else n.left, right := if n.kind = 4 ∨ n.kind = 5 then n.right + (k : Int) else n.right }
def shL (pre ns : List AN) : List AN := pre ++ ns.map (shN pre.length)
def shSt (a : Nat) (pre : List AN) (st : PS) : PS := (shP a st.1, shL pre st.2)
def shR (a : Nat) (pre : List AN) (r : Nat × PS) : Nat × PS := (pre.length + r.1, shSt a pre r.2)

theorem sh_cap (k : Nat) (n : AN) : capN (shN k n) = shN k (capN n) := rfl
theorem sh_add (a : Nat) (pre : List AN) (n n' : AN) (st : PS) (h : n' = shN pre.length n) : addS n' (shSt a pre st) = shR a pre (addS n st) := by
  subst h
  simp only [addS, shR, shSt, shL, Prod.mk.injEq]
  refine ⟨by simp, trivial, ?_⟩
  rw [List.map_append, List.append_assoc]
  rfl
theorem sh_sizeAt (pre ns : List AN) (i : Nat) : sizeAt (shL pre ns) (pre.length + i) = sizeAt ns i := by
  unfold sizeAt shL
  rw [List.getElem?_append_right (by omega), show pre.length + i - pre.length = i by omega, List.getElem?_map]
  cases ns[i]? <;> rfl
theorem sh_join (a : Nat) (pre : List AN) {kind : Int} (hk : kind = 4 ∨ kind = 5) (l r : Nat) (st : PS) : joinS kind (pre.length + l) (pre.length + r) (shSt a pre st) = shR a pre (joinS kind l r st) := by
  unfold joinS
  refine sh_add a pre _ _ st ?_
  simp only [shN, shSt]
  rw [if_pos (by omega), if_pos hk, sh_sizeAt, sh_sizeAt]
  congr 1
  · simp; omega
  · simp; omega
theorem sh_again (a : Nat) (pre : List AN) (l : Nat) (lm : Int × Int) (st : PS) : againS (pre.length + l) lm (shSt a pre st) = shR a pre (againS l lm st) := by
  unfold againS
  refine sh_add a pre _ _ st ?_
  simp only [shN, shSt]
  rw [if_pos (show ((6 : Int) = 4 ∨ (6 : Int) = 5 ∨ True) from Or.inr (Or.inr trivial)), if_neg (show ¬ ((6 : Int) = 4 ∨ (6 : Int) = 5) by omega), sh_sizeAt]
  congr 1
  simp; omega
theorem sh_leaf (k : Nat) (n : AN) (h : n.kind = 0 ∨ n.kind = 1 ∨ n.kind = 2 ∨ n.kind = 3) : shN k n = n := by
  unfold shN
  rw [if_neg (by omega), if_neg (by omega)]

theorem next_bad {p : ByteArray} {s : RS} (hs : (nextS p s).2.2 = false) : s.2 = false := by
  unfold nextS at hs; split at hs
  · exact nomatch (show true = false from hs)
  · exact hs
theorem list_bad {p : ByteArray} {st : PS} (h : (listS p st).2.1.2 = false) : st.1.2 = false := by
  unfold listS at h
  simp only [addS] at h
  split at h
  · exact nomatch (show true = false from h)
  · exact takeS_bad (itemsF_bad p _ _ _ (takeS_bad h))
theorem plain_bad {p : ByteArray} {c : Int} {st : PS} (h : (plainS p c st).2.1.2 = false) : st.1.2 = false := by
  unfold plainS bytesS addS at h
  repeat' split at h
  all_goals first | exact h | exact next_bad h | exact nomatch (show true = false from h)
theorem repeat_bad {p : ByteArray} {s : RS} (h : (repeatS p s).2.2 = false) : s.2 = false := by
  have hb : ∀ s : RS, (bracesS p s).2.2 = false → s.2 = false := fun s hs => by
    have hd : ∀ s : RS, (digS p s).2.2 = false → s.2 = false := fun s hs => by
      unfold digS at hs; split at hs
      · exact nomatch (show true = false from hs)
      · exact next_bad hs
    unfold bracesS at hs; split at hs
    · exact nomatch (show true = false from hs)
    · have h1 := takeS_bad hs
      unfold mostS at h1; split at h1
      · unfold upS at h1; split at h1
        · exact hd _ (takeS_bad h1)
        · exact hd _ (takeS_bad (hd _ h1))
      · exact hd _ (takeS_bad h1)
  unfold repeatS at h
  repeat' split at h
  · exact next_bad h
  · exact next_bad h
  · exact next_bad h
  · exact next_bad (hb _ h)
theorem close_bad {p : ByteArray} {r : Nat × PS} (h : (closeS p r).2.1.2 = false) : (takeS p 41 r.2.1).1 = true ∧ r.2.1.2 = false := by
  unfold closeS at h
  simp only [] at h
  split at h
  · rename_i h1; exact ⟨h1, takeS_bad h⟩
  · exact nomatch (show true = false from h)

/-- What has failed stays failed. -/
theorem D.bad {p : ByteArray} {tag cur : Nat} {st : PS} {r : Nat × PS} (h : D p tag cur st r) : r.2.1.2 = false → st.1.2 = false := by
  induction h with
  | pattern _ _ a b => exact fun h => a (b h)
  | empty he => exact fun h => h
  | branch he _ _ a b => exact fun h => a (b h)
  | piece _ _ a b => exact fun h => a (b h)
  | group he _ a => exact fun h => next_bad (a (close_bad h).2)
  | list he => exact fun h => next_bad (list_bad (st := (_, _)) h)
  | plain h1 h2 => exact fun h => next_bad (plain_bad (st := (_, _)) h)
  | or he _ _ a b => exact fun h => takeS_bad (a (b h))
  | orEnd he => exact fun h => h
  | and he _ _ a b => exact fun h => a (b h)
  | andEnd he => exact fun h => h
  | rep he _ a => exact fun h => repeat_bad (a h)
  | repEnd he => exact fun h => h
theorem D.cur {p : ByteArray} {tag cur : Nat} {st : PS} {r : Nat × PS} (h : D p tag cur st r) (ht : tag < 4) (cur' : Nat) : D p tag cur' st r := by
  cases h with
  | pattern a b => exact D.pattern a b
  | empty he => exact D.empty he
  | branch he a b => exact D.branch he a b
  | piece a b => exact D.piece a b
  | group he a => exact D.group he a
  | list he => exact D.list he
  | plain h1 h2 => exact D.plain h1 h2
  | or => omega
  | orEnd => omega
  | and => omega
  | andEnd => omega
  | rep => omega
  | repEnd => omega

theorem listS_eq {t : ByteArray} {st : PS} {x : Bool × RS} {i : List (Int × Int) × RS} {c : Bool × RS} (h1 : takeS t 94 st.1 = x) (h2 : itemsS t x.2 [] = i) (h3 : takeS t 93 i.2 = c) :
    listS t st = addS { kind := 1, its := i.1, neg := x.1, size := 1 } (if c.1 = false ∨ i.1.length = 0 then failS t else c.2, st.2) := by
  subst h1; subst h2; subst h3; rfl
theorem closeS_eq {t : ByteArray} {r : Nat × PS} {c : Bool × RS} (h : takeS t 41 r.2.1 = c) : closeS t r = (r.1, (if c.1 = true then c.2 else failS t, r.2.2)) := by
  subst h; rfl
theorem take_true {p : ByteArray} {c : Int} {s : RS} (h : (takeS p c s).1 = true) : pk p s.1 = c := by
  unfold takeS at h
  split at h
  · assumption
  · cases h

section
variable {p t : ByteArray} {a : Nat} (e : Emb p t a) (pre : List AN)
include e
theorem sh_list {st : PS} (hf : Fits p st.1) (h : (listS p st).2.1.2 = false) : listS t (shSt a pre st) = shR a pre (listS p st) := by
  have hf1 := fits_take (t := p) (c := 94) (by omega) hf
  have ht1 := sh_take e (c := 94) (by omega) (by omega) hf
  rw [listS_eq (t := p) (st := st) rfl rfl rfl] at h
  simp only [addS] at h
  by_cases hc : (takeS p 93 (itemsS p (takeS p 94 st.1).2 []).2).1 = false ∨ (itemsS p (takeS p 94 st.1).2 []).1.length = 0
  · rw [if_pos hc] at h; exact nomatch (show true = false from h)
  · rw [if_neg hc] at h
    have hc1 : (takeS p 93 (itemsS p (takeS p 94 st.1).2 []).2).1 = true := by
      cases hx : (takeS p 93 (itemsS p (takeS p 94 st.1).2 []).2).1 with
      | true => rfl
      | false => exact absurd (Or.inl hx) hc
    have hin : (itemsS p (takeS p 94 st.1).2 []).2.1 < p.size := pk_some (by rw [take_true hc1]; omega)
    have hgood := takeS_bad h
    have hit : itemsS t (shP a (takeS p 94 st.1).2) [] = ((itemsS p (takeS p 94 st.1).2 []).1, shP a (itemsS p (takeS p 94 st.1).2 []).2) := by
      unfold itemsS at hin hgood ⊢
      exact sh_items e _ _ _ _ hf1 (Nat.le_refl _) (Nat.le_refl _) hin hgood
    have hfi : Fits p (itemsS p (takeS p 94 st.1).2 []).2 := Nat.le_of_lt hin
    have ht2 := sh_take e (c := 93) (by omega) (by omega) hfi
    have hL : (listS t (shSt a pre st)) = addS { kind := 1, its := (itemsS p (takeS p 94 st.1).2 []).1, neg := (takeS p 94 st.1).1, size := 1 } (if (takeS p 93 (itemsS p (takeS p 94 st.1).2 []).2).1 = false ∨ (itemsS p (takeS p 94 st.1).2 []).1.length = 0 then failS t else shP a (takeS p 93 (itemsS p (takeS p 94 st.1).2 []).2).2, shL pre st.2) :=
      listS_eq (st := shSt a pre st) ht1 hit ht2
    have hR := listS_eq (t := p) (st := st) rfl rfl rfl
    rw [hL, hR, if_neg hc, if_neg hc]
    exact sh_add a pre _ _ ((takeS p 93 (itemsS p (takeS p 94 st.1).2 []).2).2, st.2) (sh_leaf _ _ (Or.inr (Or.inl rfl))).symm
theorem sh_plain {c : Int} {st : PS} (h : (plainS p c st).2.1.2 = false) : plainS t c (shSt a pre st) = shR a pre (plainS p c st) := by
  unfold plainS at h ⊢
  by_cases c1 : c = 46
  · rw [if_pos c1, if_pos c1]; exact sh_add a pre _ _ st (sh_leaf _ _ (Or.inr (Or.inl rfl))).symm
  rw [if_neg c1] at h; rw [if_neg c1, if_neg c1]
  by_cases c2 : c = 94
  · rw [if_pos c2, if_pos c2]; exact sh_add a pre _ _ st (sh_leaf _ _ (Or.inr (Or.inr (Or.inl rfl)))).symm
  rw [if_neg c2] at h; rw [if_neg c2, if_neg c2]
  by_cases c3 : c = 36
  · rw [if_pos c3, if_pos c3]; exact sh_add a pre _ _ st (sh_leaf _ _ (Or.inr (Or.inr (Or.inr rfl)))).symm
  rw [if_neg c3] at h; rw [if_neg c3, if_neg c3]
  by_cases c4 : c = 92
  · rw [if_pos c4] at h
    rw [if_pos c4, if_pos c4]
    have hn : (nextS p st.1).2.2 = false := h
    obtain ⟨h1, _, _⟩ := sh_next e hn
    simp only [shSt]
    rw [h1]
    exact sh_add a pre _ _ ((nextS p st.1).2, st.2) (sh_leaf _ _ (Or.inr (Or.inl rfl))).symm
  rw [if_neg c4] at h; rw [if_neg c4, if_neg c4]
  by_cases c5 : c = 41 ∨ c = 124 ∨ c = 42 ∨ c = 43 ∨ c = 63 ∨ c = 123
  · rw [if_pos c5] at h; exact nomatch (show true = false from h)
  · rw [if_neg c5, if_neg c5]; exact sh_add a pre _ _ st (sh_leaf _ _ (Or.inr (Or.inl rfl))).symm

/-- THE SAME DERIVATION, FURTHER ON. -/
theorem D.shift {tag cur : Nat} {st : PS} {r : Nat × PS} (h : D p tag cur st r) : Fits p st.1 → r.2.1.2 = false → D t tag (pre.length + cur) (shSt a pre st) (shR a pre r) := by
  induction h with
  | pattern d1 d2 x y =>
    intro hf hg
    have f1 := (d1.fw hf).fit
    exact D.pattern ((x hf (d2.bad hg)).cur (by omega) 0) (y f1 hg)
  | @empty cur st he =>
    intro hf hg
    rw [← sh_add a pre { kind := 0, size := 1 } _ st (sh_leaf _ _ (Or.inl rfl)).symm]
    exact D.empty (by rw [← he]; exact sh_endS e hf)
  | @branch cur st r1 r he d1 d2 x y =>
    intro hf hg
    have f1 := (d1.fw hf).fit
    exact D.branch (by rw [← he]; exact sh_endS e hf) ((x hf (d2.bad hg)).cur (by omega) 0) (y f1 hg)
  | piece d1 d2 x y =>
    intro hf hg
    have f1 := (d1.fw hf).fit
    exact D.piece ((x hf (d2.bad hg)).cur (by omega) 0) (y f1 hg)
  | @group cur st r1 he d1 x =>
    intro hf hg
    obtain ⟨h1, h2⟩ := close_bad hg
    have hb := d1.bad h2
    obtain ⟨h3, _, _⟩ := sh_next e (s := st.1) hb
    have h4 : closeS t (shR a pre r1) = shR a pre (closeS p r1) := by
      have hc := closeS_eq (t := t) (r := shR a pre r1) (sh_take41 e h1)
      have hd := closeS_eq (t := p) (r := r1) rfl
      rw [hc, hd, h1]
      rfl
    rw [← h4]
    refine D.group (by show (nextS t (shP a st.1)).1 = 40; rw [h3]; exact he) ?_
    have h5 := (x (fits_next hf) h2).cur (by omega) 0
    show D t 0 0 ((nextS t (shP a st.1)).2, _) _
    rw [h3]
    exact h5
  | @list cur st he =>
    intro hf hg
    have hb := list_bad (st := ((nextS p st.1).2, st.2)) hg
    obtain ⟨h3, _, _⟩ := sh_next e (s := st.1) hb
    rw [← sh_list e pre (st := ((nextS p st.1).2, st.2)) (fits_next hf) hg]
    have h6 : shSt a pre ((nextS p st.1).2, st.2) = ((nextS t (shSt a pre st).1).2, (shSt a pre st).2) := by
      show _ = ((nextS t (shP a st.1)).2, _); rw [h3]; rfl
    rw [h6]
    exact D.list (by show (nextS t (shP a st.1)).1 = 91; rw [h3]; exact he)
  | @plain cur st h1 h2 =>
    intro hf hg
    have hb := plain_bad (st := ((nextS p st.1).2, st.2)) hg
    obtain ⟨h3, _, _⟩ := sh_next e (s := st.1) hb
    rw [← sh_plain e pre (st := ((nextS p st.1).2, st.2)) hg]
    have h6 : shSt a pre ((nextS p st.1).2, st.2) = ((nextS t (shSt a pre st).1).2, (shSt a pre st).2) := by
      show _ = ((nextS t (shP a st.1)).2, _); rw [h3]; rfl
    have h7 : (nextS p st.1).1 = (nextS t (shSt a pre st).1).1 := by show _ = (nextS t (shP a st.1)).1; rw [h3]
    rw [h6, h7]
    exact D.plain (by rw [← h7]; exact h1) (by rw [← h7]; exact h2)
  | @or cur st r1 r he d1 d2 x y =>
    intro hf hg
    have hft := fits_take (t := p) (c := 124) (by omega) hf
    have f1 := (d1.fw hft).fit
    have h3 := sh_take e (c := 124) (by omega) (by omega) hf
    have hx := (x hft (d2.bad hg)).cur (by omega) 0
    have hy := y f1 hg
    have hj := sh_join a pre (kind := 5) (Or.inr rfl) cur r1.1 r1.2
    refine D.or (r1 := shR a pre r1) (by show (takeS t 124 (shP a st.1)).1 = true; rw [h3]; exact he) ?_ ?_
    · show D t 1 0 ((takeS t 124 (shP a st.1)).2, _) _
      rw [h3]; exact hx
    · show D t 4 (joinS 5 (pre.length + cur) (pre.length + r1.1) (shSt a pre r1.2)).1 (joinS 5 (pre.length + cur) (pre.length + r1.1) (shSt a pre r1.2)).2 _
      rw [hj]; exact hy
  | @orEnd cur st he =>
    intro hf hg
    have h3 := sh_take e (c := 124) (by omega) (by omega) hf
    exact D.orEnd (by show (takeS t 124 (shP a st.1)).1 = false; rw [h3]; exact he)
  | @and cur st r1 r he d1 d2 x y =>
    intro hf hg
    have f1 := (d1.fw hf).fit
    have hx := (x hf (d2.bad hg)).cur (by omega) 0
    have hy := y f1 hg
    have hj := sh_join a pre (kind := 4) (Or.inl rfl) cur r1.1 r1.2
    refine D.and (r1 := shR a pre r1) (by rw [← he]; exact sh_endS e hf) hx ?_
    show D t 5 (joinS 4 (pre.length + cur) (pre.length + r1.1) (shSt a pre r1.2)).1 (joinS 4 (pre.length + cur) (pre.length + r1.1) (shSt a pre r1.2)).2 _
    rw [hj]; exact hy
  | @andEnd cur st he =>
    intro hf hg
    exact D.andEnd (by rw [← he]; exact sh_endS e hf)
  | @rep cur st r he d x =>
    intro hf hg
    have hb := d.bad hg
    obtain ⟨h3, _⟩ := sh_repeat e hf hb
    have hx := x (fits_repeat hf) hg
    have hj := sh_again a pre cur (repeatS p st.1).1 ((repeatS p st.1).2, st.2)
    have h6 : shSt a pre ((repeatS p st.1).2, st.2) = ((repeatS t (shSt a pre st).1).2, (shSt a pre st).2) := by
      show _ = ((repeatS t (shP a st.1)).2, _); rw [h3]; rfl
    have h7 : (repeatS p st.1).1 = (repeatS t (shSt a pre st).1).1 := by show _ = (repeatS t (shP a st.1)).1; rw [h3]
    refine D.rep (by rw [← he]; exact sh_repS e hf) ?_
    rw [← h6, ← h7, hj]
    exact hx
  | @repEnd cur st he =>
    intro hf hg
    exact D.repEnd (by rw [← he]; exact sh_repS e hf)
end

end Go.Proofs.Ytjhmkkhnnijigaa
