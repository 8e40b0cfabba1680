/- What the reader hands back is ready for a machine. No Go in it. -/
import Derived.Test.YtjhmkkhnnijigaaLangOf
set_option linter.unusedVariables false
set_option linter.unusedSimpArgs false
namespace Go.Proofs.Ytjhmkkhnnijigaa

theorem D.fw {t : ByteArray} {tag cur : Nat} {st : PS} {r : Nat × PS} (h : D t tag cur st r) : Fits t st.1 → Fw t st r := by
  induction h with
  | pattern _ _ a b => intro hf; have f1 := a hf; have f2 := b f1.fit; exact ⟨f2.fit, Nat.le_trans f1.ge f2.ge⟩
  | empty he => intro hf; exact ⟨hf, Nat.le_refl _⟩
  | branch he _ _ a b => intro hf; have f1 := a hf; have f2 := b f1.fit; exact ⟨f2.fit, Nat.le_trans f1.ge f2.ge⟩
  | piece _ _ a b => intro hf; have f1 := a hf; have f2 := b f1.fit; exact ⟨f2.fit, Nat.le_trans f1.ge f2.ge⟩
  | @group cur st r1 he _ a =>
    intro hf
    have f1 := close_fw (a (fits_next hf))
    exact ⟨f1.fit, Nat.le_trans (next_ge hf) f1.ge⟩
  | @list cur st he =>
    intro hf
    have f1 := list_fw (t := t) (st := ((nextS t st.1).2, st.2)) (fits_next hf)
    exact ⟨f1.fit, Nat.le_trans (next_ge hf) f1.ge⟩
  | @plain cur st h1 h2 =>
    intro hf
    have f1 := plain_fw (t := t) (c := (nextS t st.1).1) (st := ((nextS t st.1).2, st.2)) (fits_next hf)
    exact ⟨f1.fit, Nat.le_trans (next_ge hf) f1.ge⟩
  | @or cur st r1 r he _ _ a b =>
    intro hf
    have f1 := a (fits_take (by omega) hf)
    have f2 := b f1.fit
    exact ⟨f2.fit, Nat.le_trans (take_ge (t := t) (c := 124) (s := st.1)) (Nat.le_trans f1.ge f2.ge)⟩
  | orEnd he => intro hf; exact ⟨hf, Nat.le_refl _⟩
  | and he _ _ a b => intro hf; have f1 := a hf; have f2 := b f1.fit; exact ⟨f2.fit, Nat.le_trans f1.ge f2.ge⟩
  | andEnd he => intro hf; exact ⟨hf, Nat.le_refl _⟩
  | @rep cur st r he _ a =>
    intro hf
    have f2 := a (fits_repeat hf)
    exact ⟨f2.fit, Nat.le_trans (Nat.le_of_lt (repeat_gt (repS_lt he))) f2.ge⟩
  | repEnd he => intro hf; exact ⟨hf, Nat.le_refl _⟩

theorem close_len (t : ByteArray) (r : Nat × PS) : (closeS t r).2.2 = r.2.2 := by unfold closeS; rfl
theorem plain_len (t : ByteArray) (c : Int) (st : PS) : (plainS t c st).2.2.length = st.2.length + 1 := by
  unfold plainS bytesS addS
  repeat' split
  all_goals simp

/-- How many nodes: at most four for each byte, and one. -/
theorem D.nodes {t : ByteArray} {tag cur : Nat} {st : PS} {r : Nat × PS} (h : D t tag cur st r) : Fits t st.1 → (tag = 2 ∨ tag = 3 → st.1.1 < t.size) →
    r.2.2.length + 4 * (t.size - r.2.1.1) + (if tag = 2 ∨ tag = 3 then 3 else 0) ≤ st.2.length + 4 * (t.size - st.1.1) + (if tag = 0 ∨ tag = 1 then 1 else 0) := by
  induction h with
  | pattern d1 _ a b =>
    intro hf _
    have h1 := a hf (by omega)
    have h2 := b (d1.fw hf).fit (by omega)
    simp at h1 h2 ⊢
    omega
  | empty he => intro hf _; simp [addS]; omega
  | branch he d1 _ a b =>
    intro hf _
    have h1 := a hf (fun _ => endS_lt he)
    have h2 := b (d1.fw hf).fit (by omega)
    simp at h1 h2 ⊢
    omega
  | piece d1 _ a b =>
    intro hf hl
    have h1 := a hf (fun _ => hl (Or.inl rfl))
    have h2 := b (d1.fw hf).fit (by omega)
    simp at h1 h2 ⊢
    omega
  | @group cur st r1 he d a =>
    intro hf hl
    have hlt := hl (Or.inr rfl)
    have hgt := next_gt hlt
    have hfn : (nextS t st.1).2.1 ≤ t.size := fits_next hf
    have h1 := a (fits_next hf) (by omega)
    have f0 := d.fw (fits_next hf)
    have f1 := (close_fw f0).ge
    have hcf : (closeS t r1).2.1.1 ≤ t.size := (close_fw f0).fit
    have hge : r1.2.1.1 ≤ (closeS t r1).2.1.1 := by
      have g3 := take_ge (t := t) (c := 41) (s := r1.2.1)
      have : r1.2.1.1 ≤ t.size := f0.fit
      unfold closeS
      simp only []
      split
      · exact g3
      · exact this
    rw [close_len]
    simp at h1 ⊢
    omega
  | @list cur st he =>
    intro hf hl
    have hlt := hl (Or.inr rfl)
    have hgt := next_gt hlt
    have f1 := (list_fw (t := t) (st := ((nextS t st.1).2, st.2)) (fits_next hf)).ge
    have hlen : (listS t ((nextS t st.1).2, st.2)).2.2.length = st.2.length + 1 := by unfold listS; simp [addS]
    rw [hlen]
    simp at f1 ⊢
    omega
  | @plain cur st h1 h2 =>
    intro hf hl
    have hlt := hl (Or.inr rfl)
    have hgt := next_gt hlt
    have f1 := (plain_fw (t := t) (c := (nextS t st.1).1) (st := ((nextS t st.1).2, st.2)) (fits_next hf)).ge
    rw [plain_len]
    simp at f1 ⊢
    omega
  | @or cur st r1 r he d1 _ a b =>
    intro hf _
    have hgt := take_gt he
    have hft : (takeS t 124 st.1).2.1 ≤ t.size := fits_take (by omega) hf
    have h1 := a hft (by omega)
    have h2 := b (d1.fw hft).fit (by omega)
    simp [joinS, addS] at h1 h2 ⊢
    omega
  | orEnd he => intro hf _; simp
  | @and cur st r1 r he d1 _ a b =>
    intro hf _
    have h1 := a hf (fun _ => endS_lt he)
    have h2 := b (d1.fw hf).fit (by omega)
    simp [joinS, addS] at h1 h2 ⊢
    omega
  | andEnd he => intro hf _; simp
  | @rep cur st r he _ a =>
    intro hf _
    have hgt := repeat_gt (repS_lt he)
    have hfr : (repeatS t st.1).2.1 ≤ t.size := fits_repeat hf
    have h2 := a hfr (by omega)
    simp [againS, addS] at h2 ⊢
    omega
  | repEnd he => intro hf _; simp

/-- What is known of a pattern that was read, and is small enough. -/
structure Okay (t : ByteArray) (r : Nat × PS) : Prop where
  ok : NodesOk r.2.2
  len : r.2.2.length ≤ 900
  top : r.1 + 1 = r.2.2.length
  all : ∀ i, i < r.2.2.length → sizeAt r.2.2 i ≤ 60

theorem okay_of {t : ByteArray} {r : Nat × PS} (ht : t.size ≤ 40) (h : Ev t 0 0 st0 r) (hs : sizeAt r.2.2 r.1 ≤ 60) : Okay t r := by
  have hf : Fits t st0.1 := Nat.zero_le _
  have d := h.deriv hf
  have g := d.gr (by omega) (fun q n hn => by simp [st0] at hn) (fun h => by omega)
  have hn := d.nodes hf (by omega)
  simp [st0] at hn
  exact ⟨g.ok, by omega, g.top, fun i hi => Int.le_trans (g.big i (Nat.zero_le _) hi) hs⟩

theorem all_ready : allReady := fun t r ht h _ hs => by
  have o := okay_of ht h hs
  have hl : lastQ r.2.2 r.2.2.length = partN r.2.2 r.1 := by rw [← o.top]; rfl
  have p := part_all o.ok o.all o.len (r.1 + 1) r.1 (by omega) (by have := o.top; omega)
  have hlen := o.len
  have htop := o.top
  refine ⟨o.len, nodes_fit o.ok o.all o.len, fun n hn => ?_, by rw [hl]; exact p.fit.room, fun i => by rw [hl]; have := p.node i; omega⟩
  obtain ⟨q, hq⟩ := List.mem_iff_getElem?.1 hn
  exact (o.ok q n hq).2.2.1

end Go.Proofs.Ytjhmkkhnnijigaa
