/- The machine as plain data: it finds just the lines that the pattern's words match. No Go in it. -/
import Derived.Test.YtgifhgnccmnbiabGreatDoorG18
import Derived.Test.YtgifhgnccmnbiabGreatDoorG07
import Derived.Test.YtgifhgnccmnbiabGreatDoorG16
set_option linter.unusedVariables false
set_option linter.unusedSimpArgs false
namespace Go.Proofs.YtgifhgnccmnbiabGreatDoor

/-- From state s (60: ahead of all steps) to step b. -/
def Nx (P : GP) (s b : Nat) : Prop := (s = 60 ∧ P.first.getLsbD b = true) ∨ (s < P.count ∧ (P.next s).getLsbD b = true)
def RunX (P : GP) : Nat → List Nat → Prop
  | s, [] => (s < P.count ∧ P.last.getLsbD s = true) ∨ (s = 60 ∧ P.empty = true)
  | s, b :: r => Nx P s b ∧ RunX P b r

section
variable {P : GP} (hP : P.Fit)
include hP
theorem Nx.lt {s b : Nat} (h : Nx P s b) : b < P.count := by
  rcases h with ⟨_, h⟩ | ⟨_, h⟩
  · exact hP.first _ h
  · exact hP.next _ _ h
theorem runX_run : ∀ {l : List Nat} {s : Nat}, s < P.count → (RunX P s l ↔ P.Run s l)
  | [], s, hs => by
    have := hP.room
    simp only [RunX, GP.Run]
    constructor
    · rintro (⟨_, h⟩ | ⟨h, _⟩)
      · exact h
      · omega
    · intro h; exact Or.inl ⟨hs, h⟩
  | b :: r, s, hs => by
    have := hP.room
    simp only [RunX, GP.Run]
    constructor
    · rintro ⟨h1 | h1, h2⟩
      · omega
      · exact ⟨h1.2, (runX_run (hP.next _ _ h1.2)).1 h2⟩
    · rintro ⟨h1, h2⟩
      exact ⟨Or.inr ⟨hs, h1⟩, (runX_run (hP.next _ _ h1)).2 h2⟩
theorem runX_acc {l : List Nat} : RunX P 60 l ↔ P.Acc l := by
  have := hP.room
  cases l with
  | nil =>
    simp only [RunX, GP.Acc]
    constructor
    · rintro (⟨h, _⟩ | ⟨_, h⟩)
      · omega
      · exact h
    · intro h; exact Or.inr ⟨trivial, h⟩
  | cons b r =>
    simp only [RunX, GP.Acc]
    constructor
    · rintro ⟨h1 | h1, h2⟩
      · exact ⟨h1.2, (runX_run hP (hP.first _ h1.2)).1 h2⟩
      · omega
    · rintro ⟨h1, h2⟩
      exact ⟨Or.inl ⟨rfl, h1⟩, (runX_run hP (hP.first _ h1)).2 h2⟩
end

section
variable {m : MP} {ns : List AN} {P : GP} {fold whole : Bool} {t : ByteArray} (hm : MF m ns P fold whole)
include hm

def Sub (P : GP) (S : B64) : Prop := ∀ b, S.getLsbD b = true → b < P.count ∨ b = 60 ∨ b = 61
theorem follow_nx {S : B64} (hS : Sub P S) {b : Nat} : (followP m S).getLsbD b = true ↔ ∃ s, S.getLsbD s = true ∧ Nx P s b := by
  have hr := hm.fit.room
  unfold followP
  rw [follow_bit]
  constructor
  · rintro ⟨s, h1, h2, h3⟩
    refine ⟨s, h2, ?_⟩
    rcases hS s h2 with h | h | h
    · rw [hm.next s h] at h3; exact Or.inr ⟨h, h3⟩
    · subst h; rw [hm.start] at h3; exact Or.inl ⟨rfl, h3⟩
    · omega
  · rintro ⟨s, h1, ⟨h2, h3⟩ | ⟨h2, h3⟩⟩
    · subst h2; exact ⟨60, by omega, h1, by rw [hm.start]; exact h3⟩
    · exact ⟨s, by omega, h1, by rw [hm.next s h2]; exact h3⟩
theorem last_run {s : Nat} (h : m.last.getLsbD s = true) : RunX P s [] := by
  rcases (hm.last s).1 h with h | h
  · exact Or.inl ⟨hm.fit.last _ h, h⟩
  · exact Or.inr h
theorem run_last {s : Nat} (h : RunX P s []) : m.last.getLsbD s = true := by
  rcases h with h | h
  · exact (hm.last s).2 (Or.inl h.2)
  · exact (hm.last s).2 (Or.inr h)
theorem free_lt {e : Bool} {b : Nat} (h : (freeP m e).getLsbD b = true) : b < P.count := by
  unfold freeP at h
  split at h
  · rw [bit_or, Bool.or_eq_true] at h
    rcases h with h | h
    · exact ((hm.ends b).1 h).1
    · exact ((hm.begins b).1 h).1
  · exact ((hm.ends b).1 h).1
theorem still_sub {S free : B64} (hS : Sub P S) (hf : ∀ b, free.getLsbD b = true → b < P.count) : Sub P (stillP m S free) := fun b h =>
  have _ := hm
  still_sound (Q := fun b => b < P.count ∨ b = 60 ∨ b = 61) hS (fun _ _ b _ h2 => Or.inl (hf b h2)) 60 b h

/-- What the set holds at the beginning. -/
theorem begin_facts : (∀ b, (beginP m).getLsbD b = true → b < P.count ∨ b = 60) ∧ (beginP m).getLsbD 60 = true ∧
    (∀ b, (beginP m).getLsbD b = true → ∀ l j, RunX P b l → Tr ns fold t (l.map P.node) 0 j → ∃ l', RunX P 60 l' ∧ Tr ns fold t (l'.map P.node) 0 j) ∧
    (∀ b, (followP m (beginP m)).getLsbD b = true → m.begins.getLsbD b = true → (beginP m).getLsbD b = true) := by
  have hr := hm.fit.room
  have hf : ∀ b, m.begins.getLsbD b = true → b < P.count := fun b h => ((hm.begins b).1 h).1
  have h1 : ∀ b, (beginP m).getLsbD b = true → b < P.count ∨ b = 60 := fun b h =>
    still_sound (Q := fun b => b < P.count ∨ b = 60) (fun b h => Or.inr (start_bit.1 h)) (fun _ _ b _ h2 => Or.inl (hf b h2)) 60 b h
  refine ⟨h1, still_up (start_bit.2 rfl) 60, ?_, fun b h2 h3 => still_closed (fun b h => by have := hf b h; omega) h2 h3⟩
  intro b hb
  have h2 := still_sound (m := m) (S := startB) (free := m.begins) (Q := fun b => (b < P.count ∨ b = 60) ∧ ∀ l j, RunX P b l → Tr ns fold t (l.map P.node) 0 j → ∃ l', RunX P 60 l' ∧ Tr ns fold t (l'.map P.node) 0 j)
    (fun b h => by
      have := start_bit.1 h
      subst this
      exact ⟨Or.inr rfl, fun l j h1 h2 => ⟨l, h1, h2⟩⟩)
    (fun S' hS' b h2 h3 => by
      refine ⟨Or.inl (hf b h3), fun l j h4 h5 => ?_⟩
      obtain ⟨s, hs, hn⟩ := (follow_nx hm (fun b h => (hS' b h).1.elim Or.inl (fun h => Or.inr (Or.inl h)))).1 h2
      obtain ⟨_, n, hn1, hn2⟩ := (hm.begins b).1 h3
      exact (hS' s hs).2 (b :: l) j ⟨hn, h4⟩ ⟨0, ⟨n, hn1, Or.inr (Or.inl ⟨hn2, rfl, rfl⟩)⟩, h5⟩)
    60 b hb
  exact h2.2

omit hm in
theorem takes_go {q b : Nat} (hm : MF m ns P fold whole) (hq : q < t.size) : (m.takes t[q].toNat).getLsbD b = true ↔ b < P.count ∧ ∃ n, ns[P.node b]? = some n ∧ n.kind = 1 ∧ takesP n fold t[q].toNat = true := by
  rw [hm.takes]
  exact ⟨fun h => h.2, fun h => ⟨t[q].toNat_lt, h⟩⟩
/-- One byte on: the steps that are that byte. -/
theorem after_bit {S : B64} (hS : Sub P S) {q b : Nat} (hq : q < t.size) : (afterP m S t[q].toNat).getLsbD b = true ↔ ∃ s, S.getLsbD s = true ∧ Nx P s b ∧ ∃ n, ns[P.node b]? = some n ∧ n.kind = 1 ∧ takesP n fold t[q].toNat = true := by
  unfold afterP
  rw [bit_and, Bool.and_eq_true, follow_nx hm hS, takes_go hm hq]
  constructor
  · rintro ⟨⟨s, h1, h2⟩, _, h3⟩; exact ⟨s, h1, h2, h3⟩
  · rintro ⟨s, h1, h2, h3⟩; exact ⟨⟨s, h1, h2⟩, h2.lt hm.fit, h3⟩

/-- What is at hand at the end of the line. -/
theorem end_sound {S : B64} {X : Prop} (hS : Sub P S) (h0 : ∀ b l j, S.getLsbD b = true → RunX P b l → Tr ns fold t (l.map P.node) t.size j → X) :
    ∀ b, (stillP m S (freeP m (t.size == 0))).getLsbD b = true → ∀ l j, RunX P b l → Tr ns fold t (l.map P.node) t.size j → X := by
  intro b hb
  have h2 := still_sound (m := m) (S := S) (free := freeP m (t.size == 0)) (Q := fun b => (b < P.count ∨ b = 60 ∨ b = 61) ∧ ∀ l j, RunX P b l → Tr ns fold t (l.map P.node) t.size j → X)
    (fun b h => ⟨hS b h, fun l j => h0 b l j h⟩)
    (fun S' hS' b h2 h3 => by
      refine ⟨Or.inl (free_lt hm h3), fun l j h4 h5 => ?_⟩
      obtain ⟨s, hs, hn⟩ := (follow_nx hm (fun b h => (hS' b h).1)).1 h2
      refine (hS' s hs).2 (b :: l) j ⟨hn, h4⟩ ⟨t.size, ?_, h5⟩
      unfold freeP at h3
      split at h3
      · rename_i hz
        have hz : t.size = 0 := by simpa using hz
        rw [bit_or, Bool.or_eq_true] at h3
        rcases h3 with h3 | h3
        · obtain ⟨_, n, hn1, hn2⟩ := (hm.ends b).1 h3
          exact ⟨n, hn1, Or.inr (Or.inr ⟨hn2, rfl, rfl⟩)⟩
        · obtain ⟨_, n, hn1, hn2⟩ := (hm.begins b).1 h3
          exact ⟨n, hn1, Or.inr (Or.inl ⟨hn2, hz, hz⟩)⟩
      · obtain ⟨_, n, hn1, hn2⟩ := (hm.ends b).1 h3
        exact ⟨n, hn1, Or.inr (Or.inr ⟨hn2, rfl, rfl⟩)⟩)
    60 b hb
  exact h2.2
theorem end_compl {S : B64} (hS : Sub P S) : ∀ (l : List Nat) (b : Nat), (stillP m S (freeP m (t.size == 0))).getLsbD b = true → RunX P b l → (∃ j, Tr ns fold t (l.map P.node) t.size j) → ∃ s, (stillP m S (freeP m (t.size == 0))).getLsbD s = true ∧ m.last.getLsbD s = true
  | [], b, hb, hr, _ => ⟨b, hb, run_last hm hr⟩
  | c :: r, b, hb, hr, ⟨j, k, ⟨n, hn, hg⟩, h2⟩ => by
    have hroom := hm.fit.room
    have hc := hr.1.lt hm.fit
    have hfl : (followP m (stillP m S (freeP m (t.size == 0)))).getLsbD c = true := (follow_nx hm (still_sub hm hS (fun b h => free_lt hm h))).2 ⟨b, hb, hr.1⟩
    have hclose : (freeP m (t.size == 0)).getLsbD c = true → (stillP m S (freeP m (t.size == 0))).getLsbD c = true := fun h => still_closed (fun b h => by have := free_lt hm h; omega) hfl h
    rcases hg with ⟨_, _, h3, _⟩ | ⟨hk, hz, rfl⟩ | ⟨hk, _, rfl⟩
    · omega
    · refine end_compl hS r c (hclose ?_) hr.2 ⟨j, by rw [hz]; exact h2⟩
      unfold freeP
      rw [if_pos (by simp [hz]), bit_or, Bool.or_eq_true]
      exact Or.inr ((hm.begins c).2 ⟨hc, n, hn, hk⟩)
    · refine end_compl hS r c (hclose ?_) hr.2 ⟨j, h2⟩
      have he : m.ends.getLsbD c = true := (hm.ends c).2 ⟨hc, n, hn, hk⟩
      unfold freeP
      split
      · rw [bit_or, Bool.or_eq_true]; exact Or.inl he
      · exact he
theorem accepts_iff {S : B64} : acceptsP m S (t.size == 0) = true ↔ ∃ b, (stillP m S (freeP m (t.size == 0))).getLsbD b = true ∧ (m.last.getLsbD b = true ∨ b = 61) := by
  have _ := hm
  unfold acceptsP
  rw [Bool.not_eq_true', decide_eq_false_iff_not, u_none]
  constructor
  · intro h
    apply Classical.byContradiction
    intro hc
    apply h
    intro i
    cases hi : (stillP m S (freeP m (t.size == 0)) &&& (m.last ||| foundB)).getLsbD i with
    | false => rfl
    | true =>
      exfalso
      rw [bit_and, bit_or, Bool.and_eq_true, Bool.or_eq_true, found_bit] at hi
      exact hc ⟨i, hi.1, hi.2⟩
  · rintro ⟨b, h1, h2⟩ hc
    have := hc b
    rw [bit_and, bit_or, h1] at this
    rcases h2 with h2 | h2
    · rw [h2] at this; simp at this
    · rw [found_bit.2 h2] at this; simp at this
end

/- THE WHOLE LINE. -/
section
variable {m : MP} {ns : List AN} {P : GP} {fold : Bool} {t : ByteArray} (hm : MF m ns P fold true)
include hm
def MatchW (P : GP) (ns : List AN) (fold : Bool) (t : ByteArray) : Prop := ∃ l, RunX P 60 l ∧ Tr ns fold t (l.map P.node) 0 t.size
structure InvW (m : MP) (ns : List AN) (P : GP) (fold : Bool) (t : ByteArray) (q : Nat) (S : B64) : Prop where
  sub : ∀ b, S.getLsbD b = true → b < P.count ∨ b = 60
  sound : ∀ b l j, S.getLsbD b = true → RunX P b l → Tr ns fold t (l.map P.node) q j → j = t.size → MatchW P ns fold t
  compl : MatchW P ns fold t → ∃ b l, S.getLsbD b = true ∧ RunX P b l ∧ Tr ns fold t (l.map P.node) q t.size
  closed : q = 0 → ∀ b, (followP m S).getLsbD b = true → m.begins.getLsbD b = true → S.getLsbD b = true

/-- Either the line is at its end here, or some step is the next byte. -/
theorem go_on {S : B64} {q : Nat} (hS : Sub P S) (hq : q < t.size) (hcl : q = 0 → ∀ b, (followP m S).getLsbD b = true → m.begins.getLsbD b = true → S.getLsbD b = true) :
    ∀ (l : List Nat) (b : Nat) (j : Nat), S.getLsbD b = true → RunX P b l → Tr ns fold t (l.map P.node) q j → (∃ s, S.getLsbD s = true ∧ m.last.getLsbD s = true ∧ j = q) ∨ ∃ c r, (afterP m S t[q].toNat).getLsbD c = true ∧ RunX P c r ∧ Tr ns fold t (r.map P.node) (q + 1) j
  | [], b, j, hb, hr, htr => Or.inl ⟨b, hb, run_last hm hr, htr.1.symm⟩
  | c :: r, b, j, hb, hr, ⟨k, ⟨n, hn, hg⟩, h2⟩ => by
    have hc := hr.1.lt hm.fit
    rcases hg with ⟨hk, rfl, h3, h4⟩ | ⟨hk, hz, rfl⟩ | ⟨hk, hz, _⟩
    · exact Or.inr ⟨c, r, (after_bit hm hS hq).2 ⟨b, hb, hr.1, n, hn, hk, h4⟩, hr.2, h2⟩
    · subst hz
      exact go_on hS hq hcl r c j (hcl rfl c ((follow_nx hm hS).2 ⟨b, hb, hr.1⟩) ((hm.begins c).2 ⟨hc, n, hn, hk⟩)) hr.2 h2
    · omega

theorem invW : ∀ q, q ≤ t.size → InvW m ns P fold t q (setQ m t q)
  | 0, _ => by
    obtain ⟨h1, h2, h3, h4⟩ := begin_facts (t := t) hm
    refine ⟨h1, fun b l j hb hr htr hj => ?_, ?_, fun _ => h4⟩
    · subst hj; exact h3 b hb l _ hr htr
    · rintro ⟨l, hl, htr⟩; exact ⟨60, l, h2, hl, htr⟩
  | q + 1, hq => by
    have ih := invW q (by omega)
    have hS : Sub P (setQ m t q) := fun b h => (ih.sub b h).elim Or.inl (fun h => Or.inr (Or.inl h))
    have hqt : q < t.size := by omega
    have e : setQ m t (q + 1) = afterP m (setQ m t q) t[q].toNat := by
      rw [setQ, dif_pos hqt]; unfold behindP; rw [if_pos hm.whole]
    rw [e]
    refine ⟨fun b h => ?_, fun b l j hb hr htr hj => ?_, fun hM => ?_, fun h => by omega⟩
    · obtain ⟨s, _, hn, _⟩ := (after_bit hm hS hqt).1 h
      exact Or.inl (hn.lt hm.fit)
    · obtain ⟨s, hs, hn, n, hn1, hn2, hn3⟩ := (after_bit hm hS hqt).1 hb
      exact ih.sound s (b :: l) j hs ⟨hn, hr⟩ ⟨q + 1, ⟨n, hn1, Or.inl ⟨hn2, rfl, hqt, hn3⟩⟩, htr⟩ hj
    · obtain ⟨b, l, hb, hr, htr⟩ := ih.compl hM
      rcases go_on hm hS hqt ih.closed l b _ hb hr htr with ⟨_, _, _, h⟩ | ⟨c, r, h1, h2, h3⟩
      · omega
      · exact ⟨c, r, h1, h2, h3⟩

end

/- SOMEWHERE IN THE LINE. -/
section
variable {m : MP} {ns : List AN} {P : GP} {fold : Bool} {t : ByteArray} (hm : MF m ns P fold false)
include hm
def MatchA (P : GP) (ns : List AN) (fold : Bool) (t : ByteArray) : Prop := ∃ i j l, RunX P 60 l ∧ Tr ns fold t (l.map P.node) i j
structure InvA (m : MP) (ns : List AN) (P : GP) (fold : Bool) (t : ByteArray) (q : Nat) (S : B64) : Prop where
  sub : Sub P S
  found : S.getLsbD 61 = true → MatchA P ns fold t
  sound : ∀ b l j, S.getLsbD b = true → RunX P b l → Tr ns fold t (l.map P.node) q j → MatchA P ns fold t
  compl : MatchA P ns fold t → S.getLsbD 61 = true ∨ (∃ b l j, S.getLsbD b = true ∧ RunX P b l ∧ Tr ns fold t (l.map P.node) q j) ∨ ∃ i l j, q < i ∧ RunX P 60 l ∧ Tr ns fold t (l.map P.node) i j
  closed : q = 0 → ∀ b, (followP m S).getLsbD b = true → m.begins.getLsbD b = true → S.getLsbD b = true

theorem go_onA {S : B64} {q : Nat} (hS : Sub P S) (hq : q < t.size) (hcl : q = 0 → ∀ b, (followP m S).getLsbD b = true → m.begins.getLsbD b = true → S.getLsbD b = true) :
    ∀ (l : List Nat) (b : Nat) (j : Nat), S.getLsbD b = true → RunX P b l → Tr ns fold t (l.map P.node) q j → (∃ s, S.getLsbD s = true ∧ m.last.getLsbD s = true) ∨ ∃ c r, (afterP m S t[q].toNat).getLsbD c = true ∧ RunX P c r ∧ Tr ns fold t (r.map P.node) (q + 1) j
  | [], b, j, hb, hr, htr => Or.inl ⟨b, hb, run_last hm hr⟩
  | c :: r, b, j, hb, hr, ⟨k, ⟨n, hn, hg⟩, h2⟩ => by
    have hc := hr.1.lt hm.fit
    rcases hg with ⟨hk, rfl, h3, h4⟩ | ⟨hk, hz, rfl⟩ | ⟨hk, hz, _⟩
    · exact Or.inr ⟨c, r, (after_bit hm hS hq).2 ⟨b, hb, hr.1, n, hn, hk, h4⟩, hr.2, h2⟩
    · subst hz
      exact go_onA hS hq hcl r c j (hcl rfl c ((follow_nx hm hS).2 ⟨b, hb, hr.1⟩) ((hm.begins c).2 ⟨hc, n, hn, hk⟩)) hr.2 h2
    · omega

omit hm in
theorem and_none {A B : B64} : A &&& B = 0#64 ↔ ¬ ∃ s, A.getLsbD s = true ∧ B.getLsbD s = true := by
  rw [u_none]
  constructor
  · rintro h ⟨s, h1, h2⟩
    have := h s
    rw [bit_and, h1, h2] at this
    simp at this
  · intro h i
    rw [bit_and]
    cases h1 : A.getLsbD i with
    | false => rfl
    | true =>
      cases h2 : B.getLsbD i with
      | false => rfl
      | true => exact absurd ⟨i, h1, h2⟩ h
theorem behind_bit {S : B64} {c b : Nat} : (behindP m S c).getLsbD b = true ↔ (afterP m S c).getLsbD b = true ∨ (b = 61 ∧ ∃ s, S.getLsbD s = true ∧ m.last.getLsbD s = true) ∨ (b = 61 ∧ S.getLsbD 61 = true) ∨ b = 60 := by
  unfold behindP
  rw [if_neg (by rw [hm.whole]; decide), bit_or, bit_or, bit_and, Bool.or_eq_true, Bool.or_eq_true, Bool.and_eq_true, start_bit, found_bit]
  have hF : (S.getLsbD b = true ∧ b = 61) ↔ (b = 61 ∧ S.getLsbD 61 = true) := by
    constructor
    · rintro ⟨h1, rfl⟩; exact ⟨rfl, h1⟩
    · rintro ⟨rfl, h1⟩; exact ⟨h1, rfl⟩
  rw [hF]
  by_cases hz : S &&& m.last = 0#64
  · rw [if_pos hz]
    have := and_none.1 hz
    constructor
    · rintro ((h | h) | h)
      · exact Or.inl h
      · exact Or.inr (Or.inr (Or.inl h))
      · exact Or.inr (Or.inr (Or.inr h))
    · rintro (h | ⟨_, h⟩ | h | h)
      · exact Or.inl (Or.inl h)
      · exact absurd h this
      · exact Or.inl (Or.inr h)
      · exact Or.inr h
  · rw [if_neg hz, bit_or, Bool.or_eq_true, found_bit]
    have hex : ∃ s, S.getLsbD s = true ∧ m.last.getLsbD s = true := Classical.byContradiction fun hc => hz (and_none.2 hc)
    constructor
    · rintro (((h | h) | h) | h)
      · exact Or.inl h
      · exact Or.inr (Or.inl ⟨h, hex⟩)
      · exact Or.inr (Or.inr (Or.inl h))
      · exact Or.inr (Or.inr (Or.inr h))
    · rintro (h | ⟨h, _⟩ | h | h)
      · exact Or.inl (Or.inl (Or.inl h))
      · exact Or.inl (Or.inl (Or.inr h))
      · exact Or.inl (Or.inr h)
      · exact Or.inr h

theorem invA : ∀ q, q ≤ t.size → InvA m ns P fold t q (setQ m t q)
  | 0, _ => by
    have hroom := hm.fit.room
    obtain ⟨h1, h2, h3, h4⟩ := begin_facts (t := t) hm
    refine ⟨fun b h => (h1 b h).elim Or.inl (fun h => Or.inr (Or.inl h)), fun h => ?_, fun b l j hb hr htr => ?_, ?_, fun _ => h4⟩
    · have := h1 _ h; omega
    · obtain ⟨l', h5, h6⟩ := h3 b hb l _ hr htr
      exact ⟨0, j, l', h5, h6⟩
    · rintro ⟨i, j, l, hl, htr⟩
      by_cases hi : i = 0
      · subst hi; exact Or.inr (Or.inl ⟨60, l, j, h2, hl, htr⟩)
      · exact Or.inr (Or.inr ⟨i, l, j, by omega, hl, htr⟩)
  | q + 1, hq => by
    have hroom := hm.fit.room
    have ih := invA q (by omega)
    have hqt : q < t.size := by omega
    have e : setQ m t (q + 1) = behindP m (setQ m t q) t[q].toNat := by rw [setQ, dif_pos hqt]
    rw [e]
    have fnd : (∃ s, (setQ m t q).getLsbD s = true ∧ m.last.getLsbD s = true) → MatchA P ns fold t := by
      rintro ⟨s, h1, h2⟩
      exact ih.sound s [] q h1 (last_run hm h2) ⟨rfl, by omega⟩
    refine ⟨fun b h => ?_, fun h => ?_, fun b l j hb hr htr => ?_, fun hM => ?_, fun h => by omega⟩
    · rcases (behind_bit hm).1 h with h | h | h | h
      · obtain ⟨s, _, hn, _⟩ := (after_bit hm ih.sub hqt).1 h
        exact Or.inl (hn.lt hm.fit)
      · exact Or.inr (Or.inr h.1)
      · exact Or.inr (Or.inr h.1)
      · exact Or.inr (Or.inl h)
    · rcases (behind_bit hm).1 h with h | h | h | h
      · obtain ⟨s, _, hn, _⟩ := (after_bit hm ih.sub hqt).1 h
        have := hn.lt hm.fit
        omega
      · exact fnd h.2
      · exact ih.found h.2
      · omega
    · rcases (behind_bit hm).1 hb with h | h | h | h
      · obtain ⟨s, hs, hn, n, hn1, hn2, hn3⟩ := (after_bit hm ih.sub hqt).1 h
        exact ih.sound s (b :: l) j hs ⟨hn, hr⟩ ⟨q + 1, ⟨n, hn1, Or.inl ⟨hn2, rfl, hqt, hn3⟩⟩, htr⟩
      · exact fnd h.2
      · exact ih.found h.2
      · subst h; exact ⟨q + 1, j, l, hr, htr⟩
    · rcases ih.compl hM with h | ⟨b, l, j, hb, hr, htr⟩ | ⟨i, l, j, hi, hr, htr⟩
      · exact Or.inl ((behind_bit hm).2 (Or.inr (Or.inr (Or.inl ⟨rfl, h⟩))))
      · rcases go_onA hm ih.sub hqt ih.closed l b j hb hr htr with h | ⟨c, r, h1, h2, h3⟩
        · exact Or.inl ((behind_bit hm).2 (Or.inr (Or.inl ⟨rfl, h⟩)))
        · exact Or.inr (Or.inl ⟨c, r, j, (behind_bit hm).2 (Or.inl h1), h2, h3⟩)
      · by_cases hi1 : i = q + 1
        · subst hi1
          exact Or.inr (Or.inl ⟨60, l, j, (behind_bit hm).2 (Or.inr (Or.inr (Or.inr rfl))), hr, htr⟩)
        · exact Or.inr (Or.inr ⟨i, l, j, by omega, hr, htr⟩)

theorem any_iff : matchesP m t = true ↔ MatchA P ns fold t := by
  have inv := invA (t := t) hm t.size (Nat.le_refl _)
  have hroom := hm.fit.room
  unfold matchesP
  rw [accepts_iff hm]
  constructor
  · rintro ⟨b, hb, h | h⟩
    · exact end_sound hm inv.sub (X := MatchA P ns fold t) (fun b l j h1 h2 h3 => inv.sound b l j h1 h2 h3) b hb [] t.size (last_run hm h) ⟨rfl, Nat.le_refl _⟩
    · subst h
      have h1 := still_sound (m := m) (S := setQ m t t.size) (free := freeP m (t.size == 0)) (Q := fun b => b < P.count ∨ b = 60 ∨ (b = 61 ∧ (setQ m t t.size).getLsbD 61 = true))
        (fun b h => by
          rcases inv.sub b h with h1 | h1 | h1
          · exact Or.inl h1
          · exact Or.inr (Or.inl h1)
          · subst h1; exact Or.inr (Or.inr ⟨rfl, h⟩)) (fun _ _ b _ h2 => Or.inl (free_lt hm h2)) 60 61 hb
      rcases h1 with h1 | h1 | h1
      · omega
      · omega
      · exact inv.found h1.2
  · intro h
    rcases inv.compl h with h | ⟨b, l, j, hb, hr, htr⟩ | ⟨i, l, j, hi, hr, htr⟩
    · exact ⟨61, still_up h 60, Or.inr rfl⟩
    · obtain ⟨s, h1, h2⟩ := end_compl hm inv.sub l b (still_up hb 60) hr ⟨_, htr⟩
      exact ⟨s, h1, Or.inl h2⟩
    · have := htr.le
      omega
end

end Go.Proofs.YtgifhgnccmnbiabGreatDoor

set_option linter.unusedVariables false
set_option linter.unusedSimpArgs false
namespace Go.Proofs.YtgifhgnccmnbiabGreatDoor

def HiZ (m : MP) : Prop := ∀ s, 61 ≤ s → m.next s = 0#64
def Meet (A B : B64) : Prop := ∃ s, A.getLsbD s = true ∧ B.getLsbD s = true

theorem fresh_bit {b : Nat} : freshB.getLsbD b = true ↔ b = 62 := by
  have e : freshB = 1#64 <<< 62 := by decide
  rw [e]; exact one_bit (by decide)
theorem meet_iff {A B : B64} : (!decide (A &&& B = 0#64)) = true ↔ Meet A B := by
  rw [Bool.not_eq_true', decide_eq_false_iff_not, and_none]
  exact Classical.not_not
theorem meet_not {A B : B64} : A &&& B = 0#64 ↔ ¬ Meet A B := and_none

theorem follow_more {m : MP} {S S' : B64} (hz : HiZ m) (h : ∀ b, b < 61 → (S'.getLsbD b = true ↔ S.getLsbD b = true)) : followQ m S' 63 = followP m S := by
  apply BitVec.eq_of_getLsbD_eq
  intro b hb
  rw [Bool.eq_iff_iff]
  unfold followP
  rw [follow_bit, follow_bit]
  constructor
  · rintro ⟨s, h1, h2, h3⟩
    have hs : s < 61 := by
      apply Classical.byContradiction
      intro hc
      rw [hz s (by omega)] at h3
      simp at h3
    exact ⟨s, hs, (h s hs).1 h2, h3⟩
  · rintro ⟨s, h1, h2, h3⟩
    exact ⟨s, by omega, (h s h1).2 h2, h3⟩

theorem into_bit (m : MP) (tk S : B64) : ∀ q, q ≤ 63 → ∀ b, (intoQ m tk S q).getLsbD b = true ↔ b < q ∧ ∃ i, (m.next b).getLsbD i = true ∧ tk.getLsbD i = true ∧ S.getLsbD i = true
  | 0, _, b => by simp [intoQ]
  | q + 1, hq, b => by
    have ih := into_bit m tk S q (by omega) b
    have key : m.next q &&& tk &&& S = 0#64 ↔ ¬ ∃ i, (m.next q).getLsbD i = true ∧ tk.getLsbD i = true ∧ S.getLsbD i = true := by
      rw [and_none]
      simp only [bit_and, Bool.and_eq_true, and_assoc]
    rw [intoQ]
    by_cases hz : m.next q &&& tk &&& S = 0#64
    · rw [if_pos hz, ih]
      constructor
      · rintro ⟨h1, h2⟩; exact ⟨by omega, h2⟩
      · rintro ⟨h1, h2⟩
        by_cases hb : b = q
        · subst hb; exact absurd h2 (key.1 hz)
        · exact ⟨by omega, h2⟩
    · rw [if_neg hz, bit_or, Bool.or_eq_true, ih, one_bit (by omega)]
      constructor
      · rintro (⟨h1, h2⟩ | h1)
        · exact ⟨by omega, h2⟩
        · subst h1
          exact ⟨by omega, Classical.byContradiction fun hc => hz (key.2 hc)⟩
      · rintro ⟨h1, h2⟩
        by_cases hb : b = q
        · exact Or.inr hb
        · exact Or.inl ⟨by omega, h2⟩

section
variable {m : MP} {free S X : B64}
theorem step_dual (hz : HiZ m) : Meet (S ||| (followP m S &&& free)) X ↔ Meet S (X ||| intoP m free X) := by
  unfold Meet intoP
  constructor
  · rintro ⟨b, h1, h2⟩
    rw [bit_or, bit_and, Bool.or_eq_true, Bool.and_eq_true] at h1
    rcases h1 with h1 | ⟨h1, h3⟩
    · exact ⟨b, h1, by rw [bit_or, h2]; rfl⟩
    · unfold followP at h1
      obtain ⟨s, h4, h5, h6⟩ := (follow_bit m S 61 b).1 h1
      exact ⟨s, h5, by rw [bit_or, Bool.or_eq_true]; exact Or.inr ((into_bit m free X 63 (by omega) s).2 ⟨by omega, b, h6, h3, h2⟩)⟩
  · rintro ⟨s, h1, h2⟩
    rw [bit_or, Bool.or_eq_true] at h2
    rcases h2 with h2 | h2
    · exact ⟨s, by rw [bit_or, h1]; rfl, h2⟩
    · obtain ⟨h3, i, h4, h5, h6⟩ := (into_bit m free X 63 (by omega) s).1 h2
      have hs : s < 61 := by
        apply Classical.byContradiction
        intro hc
        rw [hz s (by omega)] at h4
        simp at h4
      refine ⟨i, ?_, h6⟩
      rw [bit_or, bit_and, Bool.or_eq_true, Bool.and_eq_true]
      exact Or.inr ⟨(follow_bit m S 61 i).2 ⟨s, hs, h1, h4⟩, h5⟩
theorem enough_shift : ∀ k, enoughQ m free (X ||| intoP m free X) k = enoughQ m free X (k + 1)
  | 0 => rfl
  | k + 1 => by
    show enoughQ m free (X ||| intoP m free X) k ||| intoP m free (enoughQ m free (X ||| intoP m free X) k) = _
    rw [enough_shift k]
    rfl
theorem still_dual (hz : HiZ m) : ∀ (k : Nat) (X : B64), Meet (stillQ m free S k) X ↔ Meet S (enoughQ m free X k)
  | 0, X => Iff.rfl
  | k + 1, X => by
    show Meet (stillQ m free S k ||| (followP m (stillQ m free S k) &&& free)) X ↔ _
    rw [step_dual hz, still_dual hz k, enough_shift]
theorem accept_iff (hz : HiZ m) (e : Bool) : acceptsP m S e = true ↔ Meet S (enoughP m (freeP m e)) := by
  unfold acceptsP
  rw [meet_iff]
  exact still_dual hz 60 _
theorem enough_up {free' : B64} (h : ∀ b, free.getLsbD b = true → free'.getLsbD b = true) : ∀ q b, (enoughQ m free X q).getLsbD b = true → (enoughQ m free' X q).getLsbD b = true
  | 0, b, hb => hb
  | q + 1, b, hb => by
    rw [enoughQ, bit_or, Bool.or_eq_true] at hb ⊢
    rcases hb with hb | hb
    · exact Or.inl (enough_up h q b hb)
    · unfold intoP at hb ⊢
      obtain ⟨h1, i, h2, h3, h4⟩ := (into_bit _ _ _ 63 (by omega) b).1 hb
      exact Or.inr ((into_bit _ _ _ 63 (by omega) b).2 ⟨h1, i, h2, h _ h3, enough_up h q i h4⟩)
theorem enough_no (hz : HiZ m) (hX : X.getLsbD 62 = false) : ∀ q, (enoughQ m free X q).getLsbD 62 = false
  | 0 => hX
  | q + 1 => by
    rw [enoughQ, bit_or, enough_no hz hX q, Bool.false_or]
    cases h : (intoP m free (enoughQ m free X q)).getLsbD 62 with
    | false => rfl
    | true =>
      unfold intoP at h
      obtain ⟨_, i, h2, _⟩ := (into_bit _ _ _ 63 (by omega) 62).1 h
      rw [hz 62 (by omega)] at h2
      simp at h2
theorem beg_eq (hz : HiZ m) : ∀ q, begQ m q = stillQ m m.begins startB q ||| freshB
  | 0 => rfl
  | q + 1 => by
    have e : followQ m (begQ m q) 63 = followP m (stillQ m m.begins startB q) := follow_more hz fun b hb => by
      rw [beg_eq hz q, bit_or, Bool.or_eq_true, fresh_bit]
      constructor
      · rintro (h | h)
        · exact h
        · omega
      · exact Or.inl
    show begQ m q ||| (followQ m (begQ m q) 63 &&& m.begins) = (stillQ m m.begins startB q ||| (followP m (stillQ m m.begins startB q) &&& m.begins)) ||| freshB
    rw [e, beg_eq hz q, BitVec.or_assoc, BitVec.or_assoc, BitVec.or_comm freshB]
end

section
variable {m : MP} {ns : List AN} {P : GP} {fold whole : Bool} {t : ByteArray}
theorem any_next {s b : Nat} (hs : s < 63) : ((anyP (begM m)).next s).getLsbD b = true ↔ (m.next s).getLsbD b = true ∨ (s = 60 ∧ b = 60) ∨ (b = 61 ∧ (m.last.getLsbD s = true ∨ s = 61)) := by
  have e : (anyP (begM m)).next s = if s < 63 ∧ (m.last.getLsbD s = true ∨ s = 61) then (if s = 60 then m.next s ||| startB else m.next s) ||| foundB else if s = 60 then m.next s ||| startB else m.next s := rfl
  have e1 : (if s = 60 then m.next s ||| startB else m.next s).getLsbD b = true ↔ (m.next s).getLsbD b = true ∨ (s = 60 ∧ b = 60) := by
    by_cases h : s = 60
    · rw [if_pos h, bit_or, Bool.or_eq_true, start_bit]; simp [h]
    · rw [if_neg h]; simp [h]
  rw [e]
  by_cases h : m.last.getLsbD s = true ∨ s = 61
  · rw [if_pos ⟨hs, h⟩, bit_or, Bool.or_eq_true, e1, found_bit, or_assoc]
    simp only [h, and_true]
  · rw [if_neg (fun hc => h hc.2), e1]
    simp only [h, and_false, or_false]
theorem any_takes {c b : Nat} (hc : c < 256) : ((anyP (begM m)).takes c).getLsbD b = true ↔ (m.takes c).getLsbD b = true ∨ b = 60 ∨ b = 61 := by
  have e : (anyP (begM m)).takes c = if c < 256 then m.takes c ||| (startB ||| foundB) else m.takes c := rfl
  rw [e, if_pos hc, bit_or, bit_or, Bool.or_eq_true, Bool.or_eq_true, start_bit, found_bit]

theorem last_no62 (hm : MF m ns P fold whole) : m.last.getLsbD 62 = false := by
  cases h : m.last.getLsbD 62 with
  | false => rfl
  | true =>
    have hr := hm.fit.room
    rcases (hm.last 62).1 h with h | h
    · have := hm.fit.last _ h; omega
    · omega

theorem start_in (hm : MF m ns P fold false) : ∀ q, q ≤ t.size → (setQ m t q).getLsbD 60 = true
  | 0, _ => (begin_facts (t := t) hm).2.1
  | q + 1, hq => by
    rw [setQ, dif_pos (by omega : q < t.size)]
    exact (behind_bit hm).2 (Or.inr (Or.inr (Or.inr rfl)))

theorem sub_all (hm : MF m ns P fold whole) (q : Nat) (hq : q ≤ t.size) : Sub P (setQ m t q) := by
  cases whole with
  | true => exact fun b h => ((invW (t := t) hm q hq).sub b h).elim Or.inl (fun h => Or.inr (Or.inl h))
  | false => exact (invA (t := t) hm q hq).sub

theorem set_same (hm : MF m ns P fold whole) (hz : HiZ m) : ∀ q, q ≤ t.size → ∀ b, (setN (finP m) t q).getLsbD b = true ↔ (setQ m t q).getLsbD b = true ∨ (b = 62 ∧ q = 0)
  | 0, _, b => by
    have e0 : setN (finP m) t 0 = begQ m 60 := by
      show (finP m).beg = _
      unfold finP
      split <;> rfl
    rw [e0]
    show (begQ m 60).getLsbD b = true ↔ (stillQ m m.begins startB 60).getLsbD b = true ∨ _
    rw [beg_eq hz, bit_or, Bool.or_eq_true, fresh_bit]
    simp
  | q + 1, hq, b => by
    have ih := set_same hm hz q (by omega)
    have hqt : q < t.size := by omega
    have hS := sub_all (t := t) hm q (by omega)
    have hroom := hm.fit.room
    have hc := t[q].toNat_lt
    rw [setN, setQ, dif_pos hqt]
    simp only [Nat.add_eq_zero_iff, Nat.one_ne_zero, and_false, or_false]
    cases whole with
    | true =>
      have e1 : finP m = begM m := by unfold finP; rw [if_pos hm.whole]
      have e2 : followQ m (setN (finP m) t q) 63 = followP m (setQ m t q) := follow_more hz fun b hb => by
        rw [ih b]
        constructor
        · rintro (h | h)
          · exact h
          · omega
        · exact Or.inl
      rw [show fromP (finP m) ((finP m).takes t[q].toNat) (setN (finP m) t q) = fromP m (m.takes t[q].toNat) (setN (finP m) t q) by rw [fromP_next (m := m) (by rw [e1]; rfl), e1]; rfl]
      unfold fromP behindP
      rw [e2, if_pos hm.whole]
      exact Iff.rfl
    | false =>
      have e1 : finP m = anyP (begM m) := by unfold finP; rw [if_neg (by rw [hm.whole]; decide)]
      have e2 : (finP m).takes t[q].toNat = (anyP (begM m)).takes t[q].toNat := by rw [e1]
      have e3 : ∀ s, (finP m).next s = (anyP (begM m)).next s := fun s => by rw [e1]
      rw [behind_bit hm]
      unfold fromP
      rw [bit_and, Bool.and_eq_true, follow_bit, e2, any_takes hc]
      simp only [e3]
      have hno := last_no62 hm
      constructor
      · rintro ⟨⟨s, h1, h2, h3⟩, h4⟩
        rw [any_next h1] at h3
        have hs : (setQ m t q).getLsbD s = true := by
          rcases (ih s).1 h2 with h | ⟨h, _⟩
          · exact h
          · subst h
            exfalso
            rcases h3 with h3 | h3 | h3
            · rw [hz 62 (by omega)] at h3; simp at h3
            · omega
            · rcases h3.2 with h | h
              · rw [hno] at h; exact absurd h (by decide)
              · omega
        rcases h3 with h3 | h3 | ⟨h5, h3 | h3⟩
        · have hs61 : s < 61 := by
            apply Classical.byContradiction
            intro hc
            rw [hz s (by omega)] at h3
            simp at h3
          have hf : (followP m (setQ m t q)).getLsbD b = true := (follow_bit m _ 61 b).2 ⟨s, hs61, hs, h3⟩
          obtain ⟨s', _, hn⟩ := (follow_nx hm hS).1 hf
          have hb := hn.lt hm.fit
          rcases h4 with h4 | h4 | h4
          · refine Or.inl ?_
            unfold afterP
            rw [bit_and, hf, h4]; rfl
          · omega
          · omega
        · exact Or.inr (Or.inr (Or.inr h3.2))
        · exact Or.inr (Or.inl ⟨h5, s, hs, h3⟩)
        · subst h3; exact Or.inr (Or.inr (Or.inl ⟨h5, hs⟩))
      · rintro (h | ⟨h1, s, h2, h3⟩ | ⟨h1, h2⟩ | h)
        · unfold afterP at h
          rw [bit_and, Bool.and_eq_true] at h
          obtain ⟨s, h1, h2, h3⟩ := (follow_bit m _ 61 b).1 h.1
          exact ⟨⟨s, by omega, (ih s).2 (Or.inl h2), (any_next (by omega)).2 (Or.inl h3)⟩, Or.inl h.2⟩
        · have hs : s < 63 := by
            rcases hS s h2 with h | h | h <;> omega
          exact ⟨⟨s, hs, (ih s).2 (Or.inl h2), (any_next hs).2 (Or.inr (Or.inr ⟨h1, Or.inl h3⟩))⟩, Or.inr (Or.inr h1)⟩
        · exact ⟨⟨61, by omega, (ih 61).2 (Or.inl h2), (any_next (by omega)).2 (Or.inr (Or.inr ⟨h1, Or.inr rfl⟩))⟩, Or.inr (Or.inr h1)⟩
        · subst h
          exact ⟨⟨60, by omega, (ih 60).2 (Or.inl (start_in hm q (by omega))), (any_next (by omega)).2 (Or.inr (Or.inl ⟨rfl, rfl⟩))⟩, Or.inr (Or.inl rfl)⟩

theorem en_bit {b : Nat} : (enP m).getLsbD b = true ↔ (enoughP m m.ends).getLsbD b = true ∨ (b = 62 ∧ Meet (begP m) (enoughP m (m.ends ||| m.begins))) := by
  unfold enP
  by_cases h : begP m &&& enoughP m (m.ends ||| m.begins) = 0#64
  · rw [if_pos h]
    simp only [meet_not.1 h, and_false, or_false]
  · rw [if_neg h, bit_or, Bool.or_eq_true, fresh_bit]
    have : Meet (begP m) (enoughP m (m.ends ||| m.begins)) := Classical.byContradiction fun hc => h (meet_not.2 hc)
    simp only [this, and_true]

theorem found_no62 (hm : MF m ns P fold whole) : (m.last ||| foundB).getLsbD 62 = false := by
  rw [bit_or, last_no62 hm]
  decide

/-- The code's machine is the simple one. -/
theorem matches_same (hm : MF m ns P fold whole) (hz : HiZ m) : matchesN (finP m) t = matchesP m t := by
  rw [Bool.eq_iff_iff]
  have e0 : (finP m).en = enP m := by unfold finP; split <;> rfl
  unfold matchesN matchesP
  rw [meet_iff, accept_iff hz, e0]
  have hS := sub_all (t := t) hm t.size (Nat.le_refl _)
  have hroom := hm.fit.room
  have hset := set_same (t := t) hm hz t.size (Nat.le_refl _)
  have no62 : ∀ free, (enoughP m free).getLsbD 62 = false := fun free => enough_no hz (found_no62 hm) 60
  by_cases hn : t.size = 0
  · have e : (t.size == 0) = true := by rw [hn]; rfl
    have ef : freeP m true = m.ends ||| m.begins := rfl
    rw [e, ef]
    have hb : ∀ b, (begP m).getLsbD b = true ↔ (setQ m t t.size).getLsbD b = true ∨ b = 62 := fun b => by
      have := hset b
      rw [hn] at this ⊢
      have hbeg : setN (finP m) t 0 = begP m := by
        show (finP m).beg = _
        unfold finP
        split <;> rfl
      rw [hbeg] at this
      rw [this]
      simp
    have key : Meet (begP m) (enoughP m (m.ends ||| m.begins)) ↔ Meet (setQ m t t.size) (enoughP m (m.ends ||| m.begins)) := by
      constructor
      · rintro ⟨s, h1, h2⟩
        rcases (hb s).1 h1 with h | h
        · exact ⟨s, h, h2⟩
        · subst h; rw [no62] at h2; exact absurd h2 (by decide)
      · rintro ⟨s, h1, h2⟩; exact ⟨s, (hb s).2 (Or.inl h1), h2⟩
    constructor
    · rintro ⟨s, h1, h2⟩
      rcases en_bit.1 h2 with h | h
      · rcases (hset s).1 h1 with h3 | h3
        · exact ⟨s, h3, enough_up (fun b h => by rw [bit_or, h]; rfl) 60 s h⟩
        · rw [h3.1, no62] at h; exact absurd h (by decide)
      · exact key.1 h.2
    · intro h
      exact ⟨62, (hset 62).2 (Or.inr ⟨rfl, hn⟩), en_bit.2 (Or.inr ⟨rfl, key.2 h⟩)⟩
  · have e : (t.size == 0) = false := by simp [hn]
    have ef : freeP m false = m.ends := rfl
    rw [e, ef]
    constructor
    · rintro ⟨s, h1, h2⟩
      have h3 : (setQ m t t.size).getLsbD s = true := by
        rcases (hset s).1 h1 with h | h
        · exact h
        · exact absurd h.2 hn
      rcases en_bit.1 h2 with h | h
      · exact ⟨s, h3, h⟩
      · rcases hS s h3 with h4 | h4 | h4 <;> omega
    · rintro ⟨s, h1, h2⟩
      exact ⟨s, (hset s).2 (Or.inl h1), en_bit.2 (Or.inl h2)⟩

theorem built_hi (ns : List AN) (P : GP) (fold whole : Bool) : ∀ q, q ≤ 60 → HiZ (buildQ ns P fold whole q)
  | 0, _, s, hs => by
    show (if s = 60 then P.first else 0#64) = 0#64
    rw [if_neg (by omega)]
  | q + 1, hq, s, hs => by
    have ih := built_hi ns P fold whole q (by omega) s hs
    have e : (nextM (buildQ ns P fold whole q) q (P.next q)).next s = 0#64 := by
      show (if s = q then P.next q else (buildQ ns P fold whole q).next s) = 0#64
      rw [if_neg (by omega)]; exact ih
    rw [buildQ]
    cases ns[P.node q]? with
    | none => exact e
    | some n =>
      show (learnP _ _ n fold).next s = 0#64
      unfold learnP learnQ
      repeat' split
      all_goals exact e
end

end Go.Proofs.YtgifhgnccmnbiabGreatDoor

set_option linter.unusedVariables false
set_option linter.unusedSimpArgs false
namespace Go.Proofs.YtgifhgnccmnbiabGreatDoor
open Go.RowKit Go.IntWalk

/-- The text is refused as a pattern, with this error. -/
def PatE (t : ByteArray) (e : Int) : Prop :=
  (40 < t.size ∧ e = 3) ∨ (t.size ≤ 40 ∧ ∃ r : Nat × PS, Ev t 0 0 st0 r ∧ ((BadR t r ∧ e = 2) ∨ (¬ BadR t r ∧ 60 < sizeAt r.2.2 r.1 ∧ e = 3)))
/-- The text is a pattern, and this is what was read. -/
structure PatOk (t : ByteArray) (r : Nat × PS) : Prop where
  small : t.size ≤ 40
  ev : Ev t 0 0 st0 r
  good : ¬ BadR t r
  size : sizeAt r.2.2 r.1 ≤ 60
theorem pat_cases (t : ByteArray) : (∃ e, PatE t e) ∨ ∃ r, PatOk t r := by
  by_cases h : 40 < t.size
  · exact Or.inl ⟨3, Or.inl ⟨h, rfl⟩⟩
  · obtain ⟨r, d, _⟩ := (below_all (t := t) (t.size + 1) st0 (Nat.zero_le _) (by omega)).1 0
    have ev : Ev t 0 0 st0 r := d.ev
    by_cases hb : BadR t r
    · exact Or.inl ⟨2, Or.inr ⟨by omega, r, ev, Or.inl ⟨hb, rfl⟩⟩⟩
    · by_cases hs : 60 < sizeAt r.2.2 r.1
      · exact Or.inl ⟨3, Or.inr ⟨by omega, r, ev, Or.inr ⟨hb, hs, rfl⟩⟩⟩
      · exact Or.inr ⟨r, by omega, ev, hb, by omega⟩
theorem PatE.ne {t : ByteArray} {e : Int} (h : PatE t e) : e = 2 ∨ e = 3 := by
  rcases h with ⟨_, rfl⟩ | ⟨_, r, _, ⟨_, rfl⟩ | ⟨_, _, rfl⟩⟩
  · exact Or.inr rfl
  · exact Or.inl rfl
  · exact Or.inr rfl
theorem PatE.one {t : ByteArray} {e e' : Int} (h : PatE t e) (h' : PatE t e') : e = e' := by
  rcases h with ⟨a, rfl⟩ | ⟨a, r, ev, hc⟩ <;> rcases h' with ⟨b, rfl⟩ | ⟨b, r', ev', hc'⟩
  · rfl
  · omega
  · omega
  · have := ev.one ev'
    subst this
    rcases hc with ⟨h1, rfl⟩ | ⟨h1, h2, rfl⟩ <;> rcases hc' with ⟨h3, rfl⟩ | ⟨h3, h4, rfl⟩
    · rfl
    · exact absurd h1 h3
    · exact absurd h3 h1
    · rfl
theorem PatOk.not {t : ByteArray} {e : Int} {r : Nat × PS} (h : PatOk t r) (h' : PatE t e) : False := by
  have := h.small
  rcases h' with ⟨b, rfl⟩ | ⟨b, r', ev', hc'⟩
  · omega
  · have := h.ev.one ev'
    subst this
    rcases hc' with ⟨h3, _⟩ | ⟨h3, h4, _⟩
    · exact h.good h3
    · have := h.size; omega
theorem PatOk.okay {t : ByteArray} {r : Nat × PS} (h : PatOk t r) : Okay t r := okay_of h.small h.ev h.size

/-- Selected: the whole line; somewhere in it. -/
def selB (r : Nat × PS) (fold whole : Bool) (l : ByteArray) : Bool := matchesP (buildP r.2.2 (lastQ r.2.2 r.2.2.length) fold whole) l
theorem root_part {t : ByteArray} {r : Nat × PS} (h : PatOk t r) : lastQ r.2.2 r.2.2.length = partN r.2.2 r.1 ∧ PartOfN r.2.2 r.1 := by
  have o := h.okay
  have htop := o.top
  exact ⟨by rw [← o.top]; rfl, part_all o.ok o.all o.len (r.1 + 1) r.1 (by omega) (by omega)⟩
theorem all_same : allSame := fun t r ht ev hb hs fold whole l => by
  obtain ⟨e, p⟩ := root_part ⟨ht, ev, hb, hs⟩
  rw [e]
  exact matches_same (mf_of r.2.2 _ p.fit fold whole) (built_hi r.2.2 _ fold whole _ p.fit.room)
theorem sel_any {t : ByteArray} {r : Nat × PS} (h : PatOk t r) (fold : Bool) (l : ByteArray) : selB r fold false l = true ↔ ∃ i j, Mat r.2.2 fold l r.1 i j := by
  obtain ⟨e, p⟩ := root_part h
  unfold selB
  rw [e, any_iff (mf_of r.2.2 _ p.fit fold false)]
  constructor
  · rintro ⟨i, j, u, h1, h2⟩
    exact ⟨i, j, _, (p.lang _).1 ⟨u, (runX_acc p.fit).1 h1, rfl⟩, h2⟩
  · rintro ⟨i, j, u, h1, h2⟩
    obtain ⟨v, h3, rfl⟩ := (p.lang _).2 h1
    exact ⟨i, j, v, (runX_acc p.fit).2 h3, h2⟩

theorem match_ok {t : ByteArray} {r : Nat × PS} (h : PatOk t r) (inv fold whole num : Bool) (l : ByteArray) (w : World) (hl : IsLine l) :
    Calls Tryz.prog 42 #[.agg #[.bool inv, .bool fold, .bool whole, .bool num, .int .i64 0], .string t, .string l] w fun e w' => e = .returned (.tuple #[.bool (selB r fold whole l != inv), .int .i64 0]) ∧ Below w.heap.size w w' := by
  have hs := h.small
  have hls := hl.1
  refine (match_any all_ready all_same inv fold whole num 0 t l w (by omega) (by omega) (by unfold maxLen; omega) (by unfold maxLen; omega)).mono ?_
  rintro e w' ⟨h1, h2⟩
  refine ⟨?_, h2⟩
  rcases h1 with ⟨h3, _⟩ | ⟨_, h3, rfl⟩ | ⟨_, h3, r', ev, hidx, hc⟩
  · omega
  · omega
  · have he := h.ev.one ev
    subst he
    rcases hc with ⟨h4, rfl⟩ | ⟨h4, h5, rfl⟩ | ⟨h4, h5, h6, _⟩ | ⟨h4, h5, h6, rfl⟩
    · exact absurd h4 h.good
    · have := h.size; omega
    · exact absurd hl h6
    · rfl
theorem check_ok {t : ByteArray} {r : Nat × PS} (h : PatOk t r) (w : World) :
    Calls Tryz.prog 47 #[.string t] w fun e w' => e = .returned (.tuple #[.int .i64 (sizeAt r.2.2 r.1), .int .i64 0]) ∧ Below w.heap.size w w' := by
  refine (check_any t w h.small).mono ?_
  rintro e w' ⟨h1, r', ev, hidx, hc⟩
  refine ⟨?_, h1⟩
  have he := h.ev.one ev
  subst he
  rcases hc with ⟨h4, rfl⟩ | ⟨h4, h5, rfl⟩ | ⟨h4, h5, rfl⟩
  · exact absurd h4 h.good
  · have := h.size; omega
  · rfl

/- THE PATTERN a. -/
def aText : ByteArray := ⟨#[97]⟩
def aRes : Nat × PS := (0, ((1, false), [{ kind := 1, its := [(97, 97)], size := 1 }]))
theorem a_ok : PatOk aText aRes := by
  refine ⟨by decide, ?_, ?_, by decide⟩
  · have d : D aText 0 0 st0 aRes := by
      have e1 : (nextS aText st0.1).1 = 97 := by decide
      have e2 : plainS aText (nextS aText st0.1).1 ((nextS aText st0.1).2, st0.2) = aRes := rfl
      have d3 : D aText 3 0 st0 aRes := by rw [← e2]; exact D.plain (by rw [e1]; decide) (by rw [e1]; decide)
      have d6 : D aText 6 aRes.1 aRes.2 (aRes.1, aRes.2) := D.repEnd (by decide)
      have d5 : D aText 5 aRes.1 aRes.2 (aRes.1, aRes.2) := D.andEnd (by decide)
      have d4 : D aText 4 aRes.1 aRes.2 (aRes.1, aRes.2) := D.orEnd (by decide)
      exact D.pattern (D.branch (by decide) (D.piece d3 d6) d5) d4
    exact d.ev
  · rintro (h | h)
    · exact absurd h (by decide)
    · exact absurd h (by decide)
theorem a_line : IsLine aText := ⟨by decide, fun i hi h => by
  have : i = 0 := by have : aText.size = 1 := rfl; omega
  subst this
  have : aText[0].toNat = 97 := rfl
  omega⟩
theorem a_sel : selB aRes false false aText = true := by
  rw [sel_any a_ok]
  refine ⟨0, 1, [0], W.step (n := { kind := 1, its := [(97, 97)], size := 1 }) rfl (Or.inl rfl), 1, ⟨_, rfl, Or.inl ⟨rfl, rfl, by decide, by decide⟩⟩, rfl, by decide⟩

set_option maxHeartbeats 1000000 in
theorem matching_any (w : World) : Calls Tryz.prog 35 #[] w fun e w' => e = .returned (.bool true) ∧ Below w.heap.size w w' := by
  have hc : Hid (∀ w, Calls _ _ _ w _) := fun w => check_ok a_ok w
  have hm : Hid (∀ w, Calls _ _ _ w _) := fun w => match_ok a_ok false false false false aText w a_line
  rw [a_sel] at hm
  have e1 : sizeAt aRes.2.2 aRes.1 = 1 := by decide
  rw [e1] at hc
  unfold aText at hc hm
  clear e1
  go_enter Tryz.func35, Tryz.ntmps35
  go_wp2_with (first
    | (go_at_call 47; refine (hc.out _).mono ?_; rintro e w1 ⟨rfl, b1⟩)
    | (go_at_call 42; refine (hm.out _).mono ?_; rintro e w2 ⟨rfl, b2⟩))
  go_ret
  exact ⟨rfl, b1.trans (b2.mono b1.size)⟩

end Go.Proofs.YtgifhgnccmnbiabGreatDoor

set_option linter.unusedVariables false
set_option linter.unusedSimpArgs false
namespace Go.Proofs.YtgifhgnccmnbiabGreatDoor
open Go.RowKit Go.IntWalk

/-- The machine of a pattern that was read. -/
def machOf (r : Nat × PS) (fold whole : Bool) : MP := finP (buildP r.2.2 (lastQ r.2.2 r.2.2.length) fold whole)
theorem sread_bad {p : ByteArray} {x : Int} (h : PatE p x) (inv fold whole num : Bool) (mx : Int) (w : World) (hm0 : 0 ≤ mx) (hp : p.size ≤ maxLen) :
    Calls Tryz.prog 55 #[.agg #[.bool inv, .bool fold, .bool whole, .bool num, .int .i64 mx], .string p] w fun e w' => e = .returned (.tuple #[.agg #[.slice none 0 0, .int .i64 0], .int .i64 x]) ∧ Below w.heap.size w w' := by
  by_cases hlen : 40 < p.size
  · rw [h.one (Or.inl ⟨hlen, rfl⟩)]
    exact sread_long inv fold whole num mx p w hm0 hlen hp
  · refine (sread_any inv fold whole num mx p w hm0 (by omega)).mono ?_
    rintro e w' ⟨h1, r, ev, hidx, hc⟩
    refine ⟨?_, h1⟩
    rcases hc with ⟨h4, rfl⟩ | ⟨h4, h5, rfl⟩ | ⟨h4, h5, _⟩
    · rw [h.one (Or.inr ⟨by omega, r, ev, Or.inl ⟨h4, rfl⟩⟩)]
    · rw [h.one (Or.inr ⟨by omega, r, ev, Or.inr ⟨h4, h5, rfl⟩⟩)]
    · exact absurd h (fun hE => PatOk.not ⟨by omega, ev, h4, h5⟩ hE)
/-- A pattern as it was read, in memory. -/
structure RdOk (w w' : World) (p : ByteArray) (r : Nat × PS) (e : Ending) : Prop where
  below : Below w.heap.size w w'
  ex : ∃ b ao n c xs, w.heap.size ≤ b ∧ NV w' b p r.2.1 r.2.2 (.slice ao n c) xs ∧ e = .returned (.tuple #[.agg #[.slice ao n c, .int .i64 (sizeAt r.2.2 r.1)], .int .i64 0])
theorem sread_ok {p : ByteArray} {r : Nat × PS} (h : PatOk p r) (inv fold whole num : Bool) (mx : Int) (w : World) (hm0 : 0 ≤ mx) :
    Calls Tryz.prog 55 #[.agg #[.bool inv, .bool fold, .bool whole, .bool num, .int .i64 mx], .string p] w fun e w' => RdOk w w' p r e := by
  refine (sread_any inv fold whole num mx p w hm0 h.small).mono ?_
  rintro e w' ⟨h1, r', ev, hidx, hc⟩
  have he := h.ev.one ev
  subst he
  rcases hc with ⟨h4, rfl⟩ | ⟨h4, h5, rfl⟩ | ⟨h4, h5, b, ao, n, c, xs, hb, hn, rfl⟩
  · exact absurd h4 h.good
  · have := h.size; omega
  · exact ⟨h1, b, ao, n, c, xs, hb, hn, rfl⟩

def zSearch : Array Value := #[.pointer none, .int .u64 0, .bool false, .int .i64 0, .slice none 0 0]
theorem res5 {w : World} {g : Nat} {c0 c1 c2 c3 c4 : Value} {t : TypeId} (h : Blk w g #[c0, c1, c2, c3, c4] t) (v0 v1 v2 v3 v4 : Value) :
    Blk (((((w.setCell ⟨g, 0, none⟩ v0).setCell ⟨g, 1, none⟩ v1).setCell ⟨g, 2, none⟩ v2).setCell ⟨g, 3, none⟩ v3).setCell ⟨g, 4, none⟩ v4) g #[v0, v1, v2, v3, v4] t := by
  have h0 : Blk _ g #[v0, c1, c2, c3, c4] t := h.set 0 v0
  have h1 : Blk _ g #[v0, v1, c2, c3, c4] t := h0.set 1 v1
  have h2 : Blk _ g #[v0, v1, v2, c3, c4] t := h1.set 2 v2
  have h3 : Blk _ g #[v0, v1, v2, v3, c4] t := h2.set 3 v3
  have h4 : Blk _ g #[v0, v1, v2, v3, v4] t := h3.set 4 v4
  exact h4
theorem all5 {w : World} {g : Nat} {c0 c1 c2 c3 c4 : Value} {t : TypeId} (h : Blk w g #[c0, c1, c2, c3, c4] t) :
    w.cell? ⟨g, 0, none⟩ = some c0 ∧ w.cell? ⟨g, 1, none⟩ = some c1 ∧ w.cell? ⟨g, 2, none⟩ = some c2 ∧ w.cell? ⟨g, 3, none⟩ = some c3 ∧ w.cell? ⟨g, 4, none⟩ = some c4 ∧ g < w.heap.size :=
  ⟨h.cell 0, h.cell 1, h.cell 2, h.cell 3, h.cell 4, h.lt⟩
theorem froz5 {w : World} {g : Nat} {cs : Array Value} {t : TypeId} (h : Blk w g cs t) :
    w.frozen? ⟨g, 0, none⟩ = false ∧ w.frozen? ⟨g, 1, none⟩ = false ∧ w.frozen? ⟨g, 2, none⟩ = false ∧ w.frozen? ⟨g, 3, none⟩ = false ∧ w.frozen? ⟨g, 4, none⟩ = false :=
  ⟨h.frozen 0, h.frozen 1, h.frozen 2, h.frozen 3, h.frozen 4⟩
/-- Ahead of the pattern's reading: the options, and the result's block. -/
structure OW (w x : World) (o : Array Value) : Prop where
  b : Below w.heap.size w x
  o : Blk x w.heap.size o 23
  r : Blk x (w.heap.size + 1) zSearch 60
  lt : w.heap.size + 1 < x.heap.size
theorem OW.begin (w : World) (o : Array Value) : OW w ((w.alloc (.cells o 23)).alloc (.cells zSearch 60)) o :=
  ⟨((Below.refl _ _).alloc (Nat.le_refl _) _).alloc (by simp) _, (Blk.new w _ _).alloc _, Blk.new1 w _ _ _, by simp⟩
theorem OW.more {w x y : World} {o : Array Value} (h : OW w x o) (b : Below x.heap.size x y) : OW w y o :=
  ⟨h.b.trans (b.mono h.b.size), (b.block _ h.o.lt).trans h.o, (b.block _ h.r.lt).trans h.r, Nat.lt_of_lt_of_le h.lt b.size⟩
theorem OW.kept {w x y : World} {o : Array Value} (h : OW w x o) (k : Kept [] x y) : OW w y o := h.more (k.below (Nat.le_refl _) (by simp))
theorem below5 {w x : World} {g : Nat} (h : Below w.heap.size w x) (hg : w.heap.size ≤ g) (v0 v1 v2 v3 v4 : Value) :
    Below w.heap.size w (((((x.setCell ⟨g, 0, none⟩ v0).setCell ⟨g, 1, none⟩ v1).setCell ⟨g, 2, none⟩ v2).setCell ⟨g, 3, none⟩ v3).setCell ⟨g, 4, none⟩ v4) :=
  ((((h.setCell hg _).setCell hg _).setCell hg _).setCell hg _).setCell hg _

set_option maxHeartbeats 2000000 in
set_option maxRecDepth 100000 in
/-- What the pattern's reading refuses, is refused. -/
theorem sopen_no {inv fold whole num : Bool} {mx x : Int} {p f : ByteArray} (w : World) (hx : x ≠ 0) (hc : ∀ w, Calls Tryz.prog 55 #[.agg #[.bool inv, .bool fold, .bool whole, .bool num, .int .i64 mx], .string p] w fun e w' => e = .returned (.tuple #[.agg #[.slice none 0 0, .int .i64 0], .int .i64 x]) ∧ Below w.heap.size w w') :
    Calls Tryz.prog 30 #[.agg #[.bool inv, .bool fold, .bool whole, .bool num, .int .i64 mx], .string p, .string f] w fun e w' => e = .returned (.tuple #[.agg zSearch, .int .i64 x]) ∧ Below w.heap.size w w' := by
  have hcH : Hid (∀ w, Calls _ _ _ w _) := hc
  have h0 : Hid (OW w _ #[.bool inv, .bool fold, .bool whole, .bool num, .int .i64 mx]) := OW.begin w _
  clear hc
  unfold zSearch at h0
  have hxb : (x != 0) = true := by simp [hx]
  go_enter Tryz.func30, Tryz.ntmps30
  go_wp2_with (go_at_call 55; refine (hcH.out _).mono ?_; rintro e w1 ⟨rfl, b1⟩; have O1 : Hid (OW w w1 _) := h0.out.more b1; have R1 : Blk w1 (w.heap.size + 1) #[.pointer none, .int .u64 0, .bool false, .int .i64 0, .slice none 0 0] 60 := O1.out.r; obtain ⟨g0, g1, g2, g3, g4, gl⟩ := all5 R1; obtain ⟨f0, f1, f2, f3, f4⟩ := froz5 R1; clear R1)
  have R2 : Blk w1 (w.heap.size + 1) #[.pointer none, .int .u64 0, .bool false, .int .i64 0, .slice none 0 0] 60 := O1.out.r
  have R3 := (res5 R2 (.pointer none) (.int .u64 0) (.bool false) (.int .i64 0) (.slice none 0 0)).alloc (.cells #[.slice none 0 0, .int .i64 0] 93)
  obtain ⟨x0, x1, x2, x3, x4, _⟩ := all5 R3
  refine bodyPost_ret (v := .tuple #[.agg zSearch, .int .i64 x]) (by simp [results, Tryz.results30, go_sem, zSearch, x0, x1, x2, x3, x4]) rfl ⟨rfl, ?_⟩
  exact (below5 O1.out.b (by omega) _ _ _ _ _).alloc (by have := O1.out.b.size; simpa using this) _

theorem below_kept {w w' : World} (h : Below w.heap.size w w') : Kept [] w w' := ⟨h.os, h.tape, h.output, h.size, fun k hk _ => h.block k hk⟩
/-- A search that was opened. -/
structure OpOk (w w' : World) (inv : Bool) (mx : Int) (M : MP) (t : TT) (T : List (List Nat)) (e : Ending) : Prop where
  below : Below w.heap.size w w'
  ex : ∃ bt gp N L rv sv ps, e = .returned (.tuple #[.agg (seCells bt M.beg inv mx (.slice (some ⟨gp, 0, none⟩) (256 + t.rules.length) (256 + t.rules.length))), .int .i64 0]) ∧ SP w' bt gp (256 + t.rules.length) N L inv M t rv sv T ps (256 + t.rules.length)

set_option maxHeartbeats 4000000 in
set_option maxRecDepth 100000 in
theorem sopen_ok {inv fold whole num : Bool} {mx : Int} {p f : ByteArray} {r : Nat × PS} {t : TT} {T : List (List Nat)} (h : PatOk p r) (w : World) (hm0 : 0 ≤ mx) (hS : SText t T) (hf : ∀ w, Calls Tryz.prog 45 #[.string f] w fun e w' => Below w.heap.size w w' ∧ ∃ rv sv, TVal w' w.heap.size t rv sv ∧ e = .returned (.tuple #[.agg (t.cells rv sv), .int .i64 0])) :
    Calls Tryz.prog 30 #[.agg #[.bool inv, .bool fold, .bool whole, .bool num, .int .i64 mx], .string p, .string f] w fun e w' => OpOk w w' inv mx (machOf r fold whole) t T e := by
  have hc : Hid (∀ w, Calls _ _ _ w _) := fun w => sread_ok h inv fold whole num mx w hm0
  obtain ⟨rd1, rd2, rd3, rd4, rd5⟩ := all_ready p r h.small h.ev h.good h.size
  have hfH : Hid (∀ w, Calls _ _ _ w _) := hf
  have hSH : Hid (SText t T) := hS
  have hrl := hS.rlen
  have h0 : Hid (OW w _ #[.bool inv, .bool fold, .bool whole, .bool num, .int .i64 mx]) := OW.begin w _
  clear h hf hS
  unfold zSearch at h0
  have hzm := zeroV_mach
  obtain ⟨M, hM⟩ : ∃ M, machOf r fold whole = M := ⟨_, rfl⟩
  rw [hM]
  have hMH : Hid (finP (buildP r.2.2 (lastQ r.2.2 r.2.2.length) fold whole) = M) := hM
  clear hM
  go_enter Tryz.func30, Tryz.ntmps30
  go_wp2_with fail
  refine (hc.out _).mono ?_
  rintro e w1 ⟨b1, b, ao, n, c, xs, hb, hn, rfl⟩
  have O1 : Hid (OW w w1 _) := h0.out.more b1
  have hbuild : Hid (∀ w', Kept [] w1 w' → Calls _ _ _ w' _) := fun w' k => build_any r.2.2 xs (b + 1) (.slice ao n c) (sizeAt r.2.2 r.1) fold whole w' (hn.nodesIn.kept k) rd1 rd2 rd3 rd4 rd5
  rw [hMH.out] at hbuild
  clear h0 hc hb hn b1 rd1 rd2 rd3 rd4 rd5
  generalize sizeAt r.2.2 r.1 = SZ at *
  have P1 : Hid (Blk (w1.alloc (.cells #[.slice ao n c, .int .i64 (SZ : Int)] 93)) w1.heap.size #[.slice ao n c, .int .i64 (SZ : Int)] 93) := Blk.new w1 _ _
  have O1a : Hid (OW w (w1.alloc (.cells #[.slice ao n c, .int .i64 (SZ : Int)] 93)) _) := O1.out.kept ((Kept.refl [] w1).alloc _)
  have K1a : Hid (Kept [] w1 (w1.alloc (.cells #[.slice ao n c, .int .i64 (SZ : Int)] 93))) := (Kept.refl [] w1).alloc _
  go_wp2_with fail
  refine (hfH.out _).mono ?_
  rintro e w2 ⟨b2, rv, sv, htv, rfl⟩
  have k2 := below_kept b2
  have P2 : Hid (Blk w2 w1.heap.size _ _) := P1.out.kept k2 (by simp)
  have O2 : Hid (OW w w2 _) := O1a.out.kept k2
  have K2 : Hid (Kept [] w1 w2) := K1a.out.trans k2
  have hTR : Hid (TR (w2.alloc (.cells (t.cells rv sv) 86)) (w2.heap.size + 1) w2.heap.size t rv sv) :=
    ⟨Blk.new w2 _ _, row_stay (S := []) (own_low htv.rules (Nat.zero_le _)) ((Kept.refl [] w2).alloc _) (fun _ _ => by simp), row_stay (S := []) (own_low htv.start (Nat.zero_le _)) ((Kept.refl [] w2).alloc _) (fun _ _ => by simp), Nat.lt_succ_self _, fun g hg => by have := (htv.rules.lt g hg).2; omega, fun g hg => by have := (htv.start.lt g hg).2; omega⟩
  have k3 : Hid (Kept [] w2 (w2.alloc (.cells (t.cells rv sv) 86))) := (Kept.refl [] w2).alloc _
  obtain ⟨ra, rn, rc, rfl⟩ := own_shape htv.rules
  obtain ⟨sa, sn, sc, rfl⟩ := own_shape htv.start
  have hbase : Hid (w.heap.size + 1 < w2.heap.size ∧ (∀ g, (Value.slice ra rn rc).ownBlock = some g → w.heap.size + 1 < g) ∧ ∀ g, (Value.slice sa sn sc).ownBlock = some g → w.heap.size + 1 < g) := by
    have h1 := O1.out.lt
    have h2 := K2.out.size
    refine ⟨by omega, fun g hg => ?_, fun g hg => ?_⟩
    · have := (htv.rules.lt g hg).1
      simp at this; omega
    · have := (htv.start.lt g hg).1
      simp at this; omega
  clear P1 O1a K1a b2 k2 htv hfH O1
  obtain ⟨d0, d1, dl⟩ : _ ∧ _ ∧ _ := (fun B : Blk w2 w1.heap.size #[.slice ao n c, .int .i64 (SZ : Int)] 93 => ⟨B.cell 0, B.cell 1, B.lt⟩) P2.out
  have Ob : Blk w2 w.heap.size #[.bool inv, .bool fold, .bool whole, .bool num, .int .i64 mx] 23 := O2.out.o
  obtain ⟨o0, o1, o2, o3, o4, ol⟩ := all5 Ob
  have hne1 : w1.heap.size ≠ w2.heap.size := by omega
  have hne2 : w.heap.size ≠ w2.heap.size := by omega
  clear Ob
  unfold TT.cells at hTR k3 ⊢
  go_wp2_with fail
  refine (hbuild.out _ (K2.out.trans k3.out)).mono ?_
  rintro e w5 ⟨rfl, k5⟩
  have K5 : Hid (Kept [] w2 w5) := k3.out.trans k5
  have O5 : Hid (OW w w5 _) := O2.out.kept K5.out
  have T5 : Hid (TR w5 _ _ _ _ _) := hTR.out.kept k5
  have hN5 : Hid (w2.heap.size + 1 ≤ w5.heap.size) := T5.out.blk.lt
  have Ob : Blk w5 w.heap.size #[.bool inv, .bool fold, .bool whole, .bool num, .int .i64 mx] 23 := O5.out.o
  obtain ⟨p0, p1, p2, p3, p4, pl⟩ := all5 Ob
  clear Ob k3 hTR k5 hbuild K2
  go_wp2_with (with_reducible refine wpList_store_mach ?_ (.tmp 11) (.tmp 36) ?_ w5.heap.size ?_ {} M ?_ ?_ ?_
               · rfl
               · rfl
               · rfl
               · rfl
               · exact Blk.new w5 (mCells {}) 101
               intro w6 hb6 hk6 hs6
               have K6 : Hid (Kept [] w5 w6) := ((Kept.refl [] w5).alloc (.cells (mCells {}) 101)).into hk6 (Nat.le_refl _)
               have O6 : Hid (OW w w6 _) := O5.out.kept K6.out
               have Ob : Blk w6 w.heap.size #[.bool inv, .bool fold, .bool whole, .bool num, .int .i64 mx] 23 := O6.out.o
               obtain ⟨q0, q1, q2, q3, q4, ql⟩ := all5 Ob
               have M6 : Hid (MIn w6 w5.heap.size M) := hb6
               clear Ob hk6 hs6 hb6)
  have T6 : Hid (TR w6 _ _ _ _ _) := T5.out.kept K6.out
  have hN6 : w2.heap.size + 1 ≤ w6.heap.size := Nat.le_trans hN5.out K6.out.size
  refine (new_any T6.out hN6 hSH.out.sound hrl M6.out hN5.out inv fold whole num mx).mono ?_
  rintro e w7 ⟨k7, gp, ps, rfl, hgp, hsp⟩
  have O7 : Hid (OW w w7 _) := O6.out.kept k7
  have R7 : Blk w7 (w.heap.size + 1) #[.pointer none, .int .u64 0, .bool false, .int .i64 0, .slice none 0 0] 60 := O7.out.r
  obtain ⟨g0, g1, g2, g3, g4, gl⟩ := all5 R7
  obtain ⟨f0, f1, f2, f3, f4⟩ := froz5 R7
  have hspH : Hid (SP _ _ _ _ _ _ _ _ _ _ _ _ _ _) := hsp
  clear R7 hsp k7 hgp
  unfold seCells
  go_wp2
  have R8 : Blk w7 (w.heap.size + 1) #[.pointer none, .int .u64 0, .bool false, .int .i64 0, .slice none 0 0] 60 := O7.out.r
  have R9 := res5 R8 (.pointer (some ⟨w2.heap.size, 0, none⟩)) (UV M.beg) (.bool inv) (.int .i64 mx) (.slice (some ⟨gp, 0, none⟩) (256 + t.rules.length) (256 + t.rules.length))
  obtain ⟨x0, x1, x2, x3, x4, _⟩ := all5 R9
  refine bodyPost_ret (v := .tuple #[.agg (seCells w2.heap.size M.beg inv mx (.slice (some ⟨gp, 0, none⟩) (256 + t.rules.length) (256 + t.rules.length))), .int .i64 0]) (by simp [results, Tryz.results30, go_sem, seCells, x0, x1, x2, x3, x4]) rfl ⟨below5 O7.out.b (by omega) _ _ _ _ _, w2.heap.size, gp, w2.heap.size + 1, w6.heap.size, .slice ra rn rc, .slice sa sn sc, ps, rfl, ?_⟩
  obtain ⟨hb1, hb2, hb3⟩ := hbase.out
  have q : Kept [w.heap.size + 1] w7 (((((w7.setCell ⟨w.heap.size + 1, 0, none⟩ (.pointer (some ⟨w2.heap.size, 0, none⟩))).setCell ⟨w.heap.size + 1, 1, none⟩ (UV M.beg)).setCell ⟨w.heap.size + 1, 2, none⟩ (.bool inv)).setCell ⟨w.heap.size + 1, 3, none⟩ (.int .i64 mx)).setCell ⟨w.heap.size + 1, 4, none⟩ (.slice (some ⟨gp, 0, none⟩) (256 + t.rules.length) (256 + t.rules.length))) :=
    (((((Kept.refl [w.heap.size + 1] w7).setCell (Or.inl (by simp)) _).setCell (Or.inl (by simp)) _).setCell (Or.inl (by simp)) _).setCell (Or.inl (by simp)) _).setCell (Or.inl (by simp)) _
  have tr := hspH.out.tr
  refine hspH.out.low_keep q (fun x hx => by simp at hx; omega) ⟨tr.blk.kept q (by simp; omega), row_stay tr.rules q (fun g hg => ?_), row_stay tr.start q (fun g hg => ?_), tr.low, tr.rlow, tr.slow⟩
  · have := hb2 g hg; simp; omega
  · have := hb3 g hg; simp; omega

end Go.Proofs.YtgifhgnccmnbiabGreatDoor
