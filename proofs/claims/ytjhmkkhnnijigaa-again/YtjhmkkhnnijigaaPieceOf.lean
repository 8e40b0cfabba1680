/- Pieces of a line, for patterns in which no ^ and no $ stands. No Go in it. -/
import Derived.Test.YtjhmkkhnnijigaaKeepLines
set_option linter.unusedVariables false
set_option linter.unusedSimpArgs false
namespace Go.Proofs.Ytjhmkkhnnijigaa

def NoAnch (ns : List AN) : Prop := ∀ n, n ∈ ns → n.kind ≠ 2 ∧ n.kind ≠ 3
theorem noAnch_add {ns : List AN} {n : AN} {s : RS} (h : NoAnch ns) (hn : n.kind ≠ 2 ∧ n.kind ≠ 3) : NoAnch (addS n (s, ns)).2.2 := fun m hm => by
  simp only [addS, List.mem_append, List.mem_singleton] at hm
  rcases hm with hm | rfl
  · exact h m hm
  · exact hn
theorem D.noAnch {t : ByteArray} (ht : ¬ Anch t t.size) {tag cur : Nat} {st : PS} {r : Nat × PS} (h : D t tag cur st r) : NoAnch st.2 → NoAnch r.2.2 := by
  induction h with
  | pattern _ _ a b => exact fun h => b (a h)
  | empty he => exact fun h => noAnch_add h (by simp)
  | branch he _ _ a b => exact fun h => b (a h)
  | piece _ _ a b => exact fun h => b (a h)
  | group he _ a => exact fun h => by rw [close_len]; exact a h
  | list he => exact fun h => noAnch_add h (by simp)
  | @plain cur st h1 h2 =>
    intro h
    have key : ∀ c : Int, (c = 94 ∨ c = 36) → (nextS t st.1).1 ≠ c := fun c hc he => by
      unfold nextS at he
      split at he
      · simp only [] at he; omega
      · rename_i hp
        have hlt : st.1.1 < t.size := pk_some (by simp only [] at he; omega)
        rw [pk_lt hlt] at he
        exact ht ⟨st.1.1, hlt, hlt, by simp only [] at he; omega⟩
    have k1 := key 94 (Or.inl rfl)
    have k2 := key 36 (Or.inr rfl)
    unfold plainS bytesS
    repeat' split
    all_goals first
      | exact noAnch_add h (by simp)
      | (exfalso; exact k1 (by assumption))
      | (exfalso; exact k2 (by assumption))
  | or he _ _ a b => exact fun h => b (noAnch_add (a h) (by simp))
  | orEnd he => exact fun h => h
  | and he _ _ a b => exact fun h => b (noAnch_add (a h) (by simp))
  | andEnd he => exact fun h => h
  | rep he _ a => exact fun h => a (noAnch_add h (by simp))
  | repEnd he => exact fun h => h
theorem pat_noAnch {t : ByteArray} {r : Nat × PS} (h : PatOk t r) (ht : ¬ Anch t t.size) : NoAnch r.2.2 :=
  (h.ev.deriv (Nat.zero_le _)).noAnch ht (fun n hn => by simp [st0] at hn)

theorem piece_size {s : ByteArray} {a b : Nat} (hb : b ≤ s.size) : (s.extract a b).size = b - a := by rw [ByteArray.size_extract]; omega
theorem tr_piece {ns : List AN} (hn : NoAnch ns) (fold : Bool) (s : ByteArray) {a b : Nat} (hab : a ≤ b) (hb : b ≤ s.size) : ∀ (u : List Nat) (i j : Nat), i ≤ b - a → (Tr ns fold (s.extract a b) u i j ↔ Tr ns fold s u (a + i) (a + j) ∧ a + j ≤ b)
  | [], i, j, hi => by
    simp only [Tr]
    rw [piece_size hb]
    constructor
    · rintro ⟨rfl, h⟩; exact ⟨⟨rfl, by omega⟩, by omega⟩
    · rintro ⟨⟨h1, h2⟩, h3⟩; exact ⟨by omega, hi⟩
  | k :: u, i, j, hi => by
    simp only [Tr]
    constructor
    · rintro ⟨m, ⟨n, hk, hg⟩, h2⟩
      have hnn := hn n (List.mem_of_getElem? hk)
      rcases hg with ⟨h1, rfl, h3, h4⟩ | ⟨h1, _⟩ | ⟨h1, _⟩
      · have hsz := piece_size (a := a) hb
        obtain ⟨h5, h6⟩ := (tr_piece hn fold s hab hb u (i + 1) j (by omega)).1 h2
        refine ⟨⟨a + (i + 1), ⟨n, hk, Or.inl ⟨h1, by omega, by omega, ?_⟩⟩, h5⟩, h6⟩
        rw [ByteArray.getElem_extract] at h4
        exact h4
      · exact absurd h1 hnn.1
      · exact absurd h1 hnn.2
    · rintro ⟨⟨m, ⟨n, hk, hg⟩, h2⟩, h3⟩
      have hnn := hn n (List.mem_of_getElem? hk)
      rcases hg with ⟨h1, rfl, h4, h5⟩ | ⟨h1, _⟩ | ⟨h1, _⟩
      · have hle := h2.le
        have hsz := piece_size (a := a) hb
        refine ⟨i + 1, ⟨n, hk, Or.inl ⟨h1, rfl, by omega, ?_⟩⟩, (tr_piece hn fold s hab hb u (i + 1) j (by omega)).2 ⟨h2, h3⟩⟩
        rw [ByteArray.getElem_extract]
        exact h5
      · exact absurd h1 hnn.1
      · exact absurd h1 hnn.2

theorem mat_piece {ns : List AN} (hn : NoAnch ns) (fold : Bool) (s : ByteArray) (k : Nat) {a b : Nat} (hab : a ≤ b) (hb : b ≤ s.size) : Mat ns fold (s.extract a b) k 0 (s.extract a b).size ↔ Mat ns fold s k a b := by
  unfold Mat
  rw [piece_size hb]
  constructor
  · rintro ⟨u, h1, h2⟩
    have := ((tr_piece hn fold s hab hb u 0 (b - a) (Nat.zero_le _)).1 h2).1
    rw [show a + (b - a) = b by omega] at this
    exact ⟨u, h1, this⟩
  · rintro ⟨u, h1, h2⟩
    refine ⟨u, h1, (tr_piece hn fold s hab hb u 0 (b - a) (Nat.zero_le _)).2 ⟨?_, by omega⟩⟩
    rw [show a + (b - a) = b by omega]
    exact h2
theorem piece_line {s : ByteArray} (h : IsLine s) (a b : Nat) : IsLine (s.extract a b) := by
  have h1 := h.1
  refine ⟨by rw [ByteArray.size_extract]; omega, fun i hi hs => ?_⟩
  have h2 : i < (s.extract a b).size := hs
  rw [ByteArray.size_extract] at h2
  rw [ByteArray.getElem_extract]
  exact h.2 (a + i) (by omega) (by omega)

/-- Somewhere in the line means: some piece of it, whole. -/
theorem any_pieces {t : ByteArray} {r : Nat × PS} (h : PatOk t r) (ht : ¬ Anch t t.size) (fold : Bool) (s : ByteArray) :
    selB r fold false s = true ↔ ∃ i j, i ≤ j ∧ j ≤ s.size ∧ selB r fold true (s.extract i j) = true := by
  have hn := pat_noAnch h ht
  rw [sel_any h]
  constructor
  · rintro ⟨i, j, hM⟩
    obtain ⟨u, h1, h2⟩ := hM
    have hle := h2.le
    exact ⟨i, j, by omega, by omega, (sel_whole h fold _).2 ((mat_piece hn fold s r.1 (by omega) (by omega)).2 ⟨u, h1, h2⟩)⟩
  · rintro ⟨i, j, h1, h2, h3⟩
    exact ⟨i, j, (mat_piece hn fold s r.1 h1 h2).1 ((sel_whole h fold _).1 h3)⟩

end Go.Proofs.Ytjhmkkhnnijigaa
