/- The machine as plain data: what the sets of steps hold. No Go in it. -/
import Derived.Test.YtjhmkkhnnijigaaReadyOf
set_option linter.unusedVariables false
set_option linter.unusedSimpArgs false
namespace Go.Proofs.Ytjhmkkhnnijigaa

/- WHAT A LINE IS TO A WORD. -/
def Go1 (ns : List AN) (fold : Bool) (t : ByteArray) (k i j : Nat) : Prop :=
  ∃ n, ns[k]? = some n ∧ ((n.kind = 1 ∧ j = i + 1 ∧ ∃ h : i < t.size, takesP n fold t[i].toNat = true) ∨ (n.kind = 2 ∧ i = 0 ∧ j = 0) ∨ (n.kind = 3 ∧ i = t.size ∧ j = t.size))
def Tr (ns : List AN) (fold : Bool) (t : ByteArray) : List Nat → Nat → Nat → Prop
  | [], i, j => i = j ∧ i ≤ t.size
  | k :: u, i, j => ∃ m, Go1 ns fold t k i m ∧ Tr ns fold t u m j
/-- The node matches from one place to another. -/
def Mat (ns : List AN) (fold : Bool) (t : ByteArray) (k i j : Nat) : Prop := ∃ u, W ns k u ∧ Tr ns fold t u i j

section
variable {ns : List AN} {fold : Bool} {t : ByteArray}
theorem Tr.le : ∀ {u : List Nat} {i j : Nat}, Tr ns fold t u i j → i ≤ t.size ∧ j ≤ t.size ∧ i ≤ j
  | [], i, j, h => by obtain ⟨rfl, h⟩ := h; exact ⟨h, h, Nat.le_refl _⟩
  | k :: u, i, j, h => by
    obtain ⟨m, ⟨n, _, hg⟩, h2⟩ := h
    have := Tr.le h2
    rcases hg with ⟨_, rfl, h3, _⟩ | ⟨_, rfl, rfl⟩ | ⟨_, rfl, rfl⟩ <;> omega
theorem Tr.app : ∀ {u v : List Nat} {i j : Nat}, Tr ns fold t (u ++ v) i j ↔ ∃ m, Tr ns fold t u i m ∧ Tr ns fold t v m j
  | [], v, i, j => by
    constructor
    · intro h; exact ⟨i, ⟨rfl, h.le.1⟩, h⟩
    · rintro ⟨m, ⟨rfl, _⟩, h⟩; exact h
  | k :: u, v, i, j => by
    constructor
    · rintro ⟨m, h1, h2⟩
      obtain ⟨m2, h3, h4⟩ := Tr.app.1 h2
      exact ⟨m2, ⟨m, h1, h3⟩, h4⟩
    · rintro ⟨m2, ⟨m, h1, h3⟩, h4⟩
      exact ⟨m, h1, Tr.app.2 ⟨m2, h3, h4⟩⟩
end

/- FOLLOW, STILL. -/
theorem follow_bit (m : MP) (S : B64) : ∀ q b, (followQ m S q).getLsbD b = true ↔ ∃ s, s < q ∧ S.getLsbD s = true ∧ (m.next s).getLsbD b = true
  | 0, b => by simp [followQ]
  | q + 1, b => by
    rw [followQ]
    split
    · rename_i h
      rw [bit_or, Bool.or_eq_true, follow_bit m S q b]
      constructor
      · rintro (⟨s, h1, h2⟩ | h1)
        · exact ⟨s, by omega, h2⟩
        · exact ⟨q, by omega, h, h1⟩
      · rintro ⟨s, h1, h2, h3⟩
        by_cases hs : s = q
        · subst hs; exact Or.inr h3
        · exact Or.inl ⟨s, by omega, h2, h3⟩
    · rename_i h
      rw [follow_bit m S q b]
      constructor
      · rintro ⟨s, h1, h2⟩; exact ⟨s, by omega, h2⟩
      · rintro ⟨s, h1, h2, h3⟩
        refine ⟨s, ?_, h2, h3⟩
        by_cases hs : s = q
        · subst hs; exact absurd h2 h
        · omega

def cntN : Nat → B64 → Nat
  | 0, _ => 0
  | n + 1, S => cntN n S + if S.getLsbD n = true then 1 else 0
theorem cntN_le (S : B64) : ∀ n, cntN n S ≤ n
  | 0 => Nat.le_refl _
  | n + 1 => by have := cntN_le S n; rw [cntN]; split <;> omega
theorem cntN_mono {A B : B64} (h : ∀ b, A.getLsbD b = true → B.getLsbD b = true) : ∀ n, cntN n A ≤ cntN n B
  | 0 => Nat.le_refl _
  | n + 1 => by
    have := cntN_mono h n
    rw [cntN, cntN]
    by_cases h1 : A.getLsbD n = true
    · rw [if_pos h1, if_pos (h n h1)]; omega
    · rw [if_neg h1]; omega
theorem cntN_lt {A B : B64} (h : ∀ b, A.getLsbD b = true → B.getLsbD b = true) {c : Nat} (hA : ¬ A.getLsbD c = true) (hB : B.getLsbD c = true) : ∀ n, c < n → cntN n A < cntN n B
  | 0, hc => by omega
  | n + 1, hc => by
    rw [cntN, cntN]
    by_cases hcn : c = n
    · subst hcn
      have := cntN_mono h c
      rw [if_neg hA, if_pos hB]; omega
    · have := cntN_lt h hA hB n (by omega)
      by_cases h1 : A.getLsbD n = true
      · rw [if_pos h1, if_pos (h n h1)]; omega
      · rw [if_neg h1]; omega

section
variable {m : MP} {S free : B64}
theorem still_bit {q b : Nat} : (stillQ m free S (q + 1)).getLsbD b = true ↔ (stillQ m free S q).getLsbD b = true ∨ ((followP m (stillQ m free S q)).getLsbD b = true ∧ free.getLsbD b = true) := by
  rw [stillQ, bit_or, bit_and, Bool.or_eq_true, Bool.and_eq_true]
theorem still_up {b : Nat} (h : S.getLsbD b = true) : ∀ q, (stillQ m free S q).getLsbD b = true
  | 0 => h
  | q + 1 => still_bit.2 (Or.inl (still_up h q))
theorem still_same {q : Nat} (h : stillQ m free S (q + 1) = stillQ m free S q) : ∀ k, stillQ m free S (q + k + 1) = stillQ m free S (q + k)
  | 0 => h
  | k + 1 => by
    have ih := still_same h k
    show stillQ m free S (q + k + 1) ||| (followP m (stillQ m free S (q + k + 1)) &&& free) = stillQ m free S (q + k + 1)
    rw [ih]
    exact ih
theorem still_grows (hfree : ∀ b, free.getLsbD b = true → b < 60) (hne : stillQ m free S 61 ≠ stillQ m free S 60) : ∀ q, q ≤ 61 → q ≤ cntN 60 (stillQ m free S q)
  | 0, _ => Nat.zero_le _
  | q + 1, hq => by
    have ih := still_grows hfree hne q (by omega)
    have hn : stillQ m free S (q + 1) ≠ stillQ m free S q := fun hc => hne (by
      have := still_same hc (60 - q)
      rwa [show q + (60 - q) = 60 by omega] at this)
    obtain ⟨b, hb⟩ : ∃ b, ¬ ((stillQ m free S (q + 1)).getLsbD b = (stillQ m free S q).getLsbD b) := by
      apply Classical.byContradiction
      intro hc
      apply hn
      apply BitVec.eq_of_getLsbD_eq
      intro i hi
      apply Classical.byContradiction
      intro h; exact hc ⟨i, h⟩
    have hsub : ∀ b, (stillQ m free S q).getLsbD b = true → (stillQ m free S (q + 1)).getLsbD b = true := fun b h => still_bit.2 (Or.inl h)
    have h1 : ¬ (stillQ m free S q).getLsbD b = true := fun h => hb (by rw [h, hsub b h])
    have h2 : (stillQ m free S (q + 1)).getLsbD b = true := by
      cases h : (stillQ m free S (q + 1)).getLsbD b with
      | true => rfl
      | false => exfalso; apply hb; rw [h]; cases h3 : (stillQ m free S q).getLsbD b with
        | true => exact absurd h3 h1
        | false => rfl
    have hfb : free.getLsbD b = true := by
      rcases still_bit.1 h2 with h | h
      · exact absurd h h1
      · exact h.2
    have := cntN_lt hsub h1 h2 60 (hfree b hfb)
    omega
/-- Sixty times are enough. -/
theorem still_closed (hfree : ∀ b, free.getLsbD b = true → b < 60) {b : Nat} (h1 : (followP m (stillP m S free)).getLsbD b = true) (h2 : free.getLsbD b = true) : (stillP m S free).getLsbD b = true := by
  apply Classical.byContradiction
  intro hc
  have hne : stillQ m free S 61 ≠ stillQ m free S 60 := fun he => by
    apply hc
    show (stillQ m free S 60).getLsbD b = true
    rw [← he]
    exact still_bit.2 (Or.inr ⟨h1, h2⟩)
  have := still_grows hfree hne 61 (Nat.le_refl _)
  have := cntN_le (stillQ m free S 61) 60
  omega
theorem still_sound {Q : Nat → Prop} (h0 : ∀ b, S.getLsbD b = true → Q b) (h1 : ∀ S' : B64, (∀ b, S'.getLsbD b = true → Q b) → ∀ b, (followP m S').getLsbD b = true → free.getLsbD b = true → Q b) : ∀ q b, (stillQ m free S q).getLsbD b = true → Q b
  | 0, b, h => h0 b h
  | q + 1, b, h => by
    rcases still_bit.1 h with h | ⟨h2, h3⟩
    · exact still_sound h0 h1 q b h
    · exact h1 _ (still_sound h0 h1 q) b h2 h3
end

/- THE MACHINE OF A PART. -/
structure MF (m : MP) (ns : List AN) (P : GP) (fold whole : Bool) : Prop where
  fit : P.Fit
  whole : m.whole = whole
  next : ∀ s, s < P.count → m.next s = P.next s
  start : m.next 60 = P.first
  takes : ∀ c b, (m.takes c).getLsbD b = true ↔ c < 256 ∧ b < P.count ∧ ∃ n, ns[P.node b]? = some n ∧ n.kind = 1 ∧ takesP n fold c = true
  begins : ∀ b, m.begins.getLsbD b = true ↔ b < P.count ∧ ∃ n, ns[P.node b]? = some n ∧ n.kind = 2
  ends : ∀ b, m.ends.getLsbD b = true ↔ b < P.count ∧ ∃ n, ns[P.node b]? = some n ∧ n.kind = 3
  last : ∀ b, m.last.getLsbD b = true ↔ P.last.getLsbD b = true ∨ (b = 60 ∧ P.empty = true)

theorem one_bit {q b : Nat} (hq : q < 64) : (1#64 <<< q : B64).getLsbD b = true ↔ b = q := by
  rw [bit_shl, BitVec.getLsbD_one]
  simp only [Bool.and_eq_true, decide_eq_true_eq, Bool.not_eq_true', decide_eq_false_iff_not]
  omega
theorem start_bit {b : Nat} : startB.getLsbD b = true ↔ b = 60 := by
  have e : startB = 1#64 <<< 60 := by decide
  rw [e]; exact one_bit (by decide)
theorem found_bit {b : Nat} : foundB.getLsbD b = true ↔ b = 61 := by
  have e : foundB = 1#64 <<< 61 := by decide
  rw [e]; exact one_bit (by decide)

structure MFq (m : MP) (ns : List AN) (P : GP) (fold whole : Bool) (q : Nat) : Prop where
  whole : m.whole = whole
  next : ∀ s, s < q → m.next s = P.next s
  start : m.next 60 = P.first
  takes : ∀ c b, (m.takes c).getLsbD b = true ↔ c < 256 ∧ b < q ∧ ∃ n, ns[P.node b]? = some n ∧ n.kind = 1 ∧ takesP n fold c = true
  begins : ∀ b, m.begins.getLsbD b = true ↔ b < q ∧ ∃ n, ns[P.node b]? = some n ∧ n.kind = 2
  ends : ∀ b, m.ends.getLsbD b = true ↔ b < q ∧ ∃ n, ns[P.node b]? = some n ∧ n.kind = 3
  last : ∀ b, m.last.getLsbD b = true ↔ P.last.getLsbD b = true ∨ (b = 60 ∧ P.empty = true)

theorem lt_succ_or {b q : Nat} {X : Nat → Prop} : (b < q + 1 ∧ X b) ↔ (b < q ∧ X b) ∨ (b = q ∧ X q) := by
  constructor
  · rintro ⟨h1, h2⟩
    by_cases h : b = q
    · subst h; exact Or.inr ⟨rfl, h2⟩
    · exact Or.inl ⟨by omega, h2⟩
  · rintro (⟨h1, h2⟩ | ⟨rfl, h2⟩)
    · exact ⟨by omega, h2⟩
    · exact ⟨by omega, h2⟩

theorem built (ns : List AN) (P : GP) (fold whole : Bool) : ∀ q, q ≤ 60 → MFq (buildQ ns P fold whole q) ns P fold whole q
  | 0, _ => by
    refine ⟨rfl, fun s h => by omega, rfl, fun c b => ?_, fun b => ?_, fun b => ?_, fun b => ?_⟩
    · simp [buildQ, build0, nextM]
    · simp [buildQ, build0, nextM]
    · simp [buildQ, build0, nextM]
    · simp only [buildQ, build0]
      split
      · rename_i h; rw [bit_or, Bool.or_eq_true, start_bit]; simp [h]
      · rename_i h; simp [h]
  | q + 1, hq => by
    have ih := built ns P fold whole q (by omega)
    have hnx : ∀ s, s < q + 1 → (nextM (buildQ ns P fold whole q) q (P.next q)).next s = P.next s := fun s hs => by
      simp only [nextM]
      by_cases h : s = q
      · subst h; rw [if_pos rfl]
      · rw [if_neg h]; exact ih.next s (by omega)
    have hst : (nextM (buildQ ns P fold whole q) q (P.next q)).next 60 = P.first := by
      simp only [nextM]; rw [if_neg (by omega)]; exact ih.start
    rw [buildQ]
    cases hn : ns[P.node q]? with
    | none =>
      refine ⟨ih.whole, hnx, hst, fun c b => ?_, fun b => ?_, fun b => ?_, ih.last⟩
      · refine (ih.takes c b).trans ?_
        rw [lt_succ_or (X := fun b => ∃ n, ns[P.node b]? = some n ∧ n.kind = 1 ∧ takesP n fold c = true)]
        simp [hn]
      · refine (ih.begins b).trans ?_
        rw [lt_succ_or (X := fun b => ∃ n, ns[P.node b]? = some n ∧ n.kind = 2)]
        simp [hn]
      · refine (ih.ends b).trans ?_
        rw [lt_succ_or (X := fun b => ∃ n, ns[P.node b]? = some n ∧ n.kind = 3)]
        simp [hn]
    | some n =>
      have T : ∀ c b, (c < 256 ∧ b < q + 1 ∧ ∃ n, ns[P.node b]? = some n ∧ n.kind = 1 ∧ takesP n fold c = true) ↔ (((buildQ ns P fold whole q).takes c).getLsbD b = true ∨ (b = q ∧ c < 256 ∧ n.kind = 1 ∧ takesP n fold c = true)) := fun c b => by
        rw [ih.takes c b, lt_succ_or (X := fun b => ∃ n, ns[P.node b]? = some n ∧ n.kind = 1 ∧ takesP n fold c = true)]
        simp only [hn, Option.some.injEq, exists_eq_left']
        constructor
        · rintro ⟨h1, h2 | h2⟩
          · exact Or.inl ⟨h1, h2⟩
          · exact Or.inr ⟨h2.1, h1, h2.2⟩
        · rintro (⟨h1, h2⟩ | ⟨h1, h2, h3⟩)
          · exact ⟨h1, Or.inl h2⟩
          · exact ⟨h2, Or.inr ⟨h1, h3⟩⟩
      have B : ∀ b, (b < q + 1 ∧ ∃ n, ns[P.node b]? = some n ∧ n.kind = 2) ↔ ((buildQ ns P fold whole q).begins.getLsbD b = true ∨ (b = q ∧ n.kind = 2)) := fun b => by
        rw [ih.begins b, lt_succ_or (X := fun b => ∃ n, ns[P.node b]? = some n ∧ n.kind = 2)]
        simp only [hn, Option.some.injEq, exists_eq_left']
      have E : ∀ b, (b < q + 1 ∧ ∃ n, ns[P.node b]? = some n ∧ n.kind = 3) ↔ ((buildQ ns P fold whole q).ends.getLsbD b = true ∨ (b = q ∧ n.kind = 3)) := fun b => by
        rw [ih.ends b, lt_succ_or (X := fun b => ∃ n, ns[P.node b]? = some n ∧ n.kind = 3)]
        simp only [hn, Option.some.injEq, exists_eq_left']
      simp only []
      unfold learnP
      by_cases k2 : n.kind = 2
      · rw [if_pos k2]
        refine ⟨ih.whole, hnx, hst, fun c b => ?_, fun b => ?_, fun b => ?_, ih.last⟩
        · rw [T]; simp [k2, nextM]
        · rw [B]; simp only [nextM]; rw [bit_or, Bool.or_eq_true, one_bit (by omega)]; simp [k2]
        · rw [E]; simp [k2, nextM]
      · rw [if_neg k2]
        by_cases k3 : n.kind = 3
        · rw [if_pos k3]
          refine ⟨ih.whole, hnx, hst, fun c b => ?_, fun b => ?_, fun b => ?_, ih.last⟩
          · rw [T]; simp [k3, nextM]
          · rw [B]; simp [k3, nextM]
          · rw [E]; simp only [nextM]; rw [bit_or, Bool.or_eq_true, one_bit (by omega)]; simp [k3]
        · rw [if_neg k3]
          by_cases k1 : n.kind = 1
          · rw [if_pos k1]
            refine ⟨ih.whole, hnx, hst, fun c b => ?_, fun b => ?_, fun b => ?_, ih.last⟩
            · rw [T]
              simp only [learnQ, nextM]
              split
              · rename_i h; rw [bit_or, Bool.or_eq_true, one_bit (by omega)]; simp [h.1, h.2, k1]
              · rename_i h
                constructor
                · intro h1; exact Or.inl h1
                · rintro (h1 | ⟨_, h2, _, h3⟩)
                  · exact h1
                  · exact absurd ⟨h2, h3⟩ h
            · rw [B]; simp [k1, nextM, learnQ]
            · rw [E]; simp [k1, nextM, learnQ]
          · rw [if_neg k1]
            refine ⟨ih.whole, hnx, hst, fun c b => ?_, fun b => ?_, fun b => ?_, ih.last⟩
            · rw [T]; simp [k1, nextM]
            · rw [B]; simp [k2, nextM]
            · rw [E]; simp [k3, nextM]

theorem mf_of (ns : List AN) (P : GP) (hP : P.Fit) (fold whole : Bool) : MF (buildP ns P fold whole) ns P fold whole := by
  have h := built ns P fold whole P.count hP.room
  exact ⟨hP, h.whole, h.next, h.start, h.takes, h.begins, h.ends, h.last⟩

end Go.Proofs.Ytjhmkkhnnijigaa
