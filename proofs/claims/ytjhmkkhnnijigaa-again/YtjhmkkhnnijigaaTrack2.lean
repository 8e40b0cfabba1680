/- The machine as plain data: it finds just the lines that the pattern's words match. No Go in it. -/
import Derived.Test.YtjhmkkhnnijigaaTrack
set_option linter.unusedVariables false
set_option linter.unusedSimpArgs false
namespace Go.Proofs.Ytjhmkkhnnijigaa

/-- From state s (60: ahead of all steps) to step b. -/
def Nx (P : GP) (s b : Nat) : Prop := (s = 60 ∧ P.first.getLsbD b = true) ∨ (s < P.count ∧ (P.next s).getLsbD b = true)
def RunX (P : GP) : Nat → List Nat → Prop
  | s, [] => (s < P.count ∧ P.last.getLsbD s = true) ∨ (s = 60 ∧ P.empty = true)
  | s, b :: r => Nx P s b ∧ RunX P b r

section
variable {P : GP} (hP : P.Fit)
include hP
theorem Nx.lt {s b : Nat} (h : Nx P s b) : b < P.count := by
  rcases h with ⟨_, h⟩ | ⟨_, h⟩
  · exact hP.first _ h
  · exact hP.next _ _ h
theorem runX_run : ∀ {l : List Nat} {s : Nat}, s < P.count → (RunX P s l ↔ P.Run s l)
  | [], s, hs => by
    have := hP.room
    simp only [RunX, GP.Run]
    constructor
    · rintro (⟨_, h⟩ | ⟨h, _⟩)
      · exact h
      · omega
    · intro h; exact Or.inl ⟨hs, h⟩
  | b :: r, s, hs => by
    have := hP.room
    simp only [RunX, GP.Run]
    constructor
    · rintro ⟨h1 | h1, h2⟩
      · omega
      · exact ⟨h1.2, (runX_run (hP.next _ _ h1.2)).1 h2⟩
    · rintro ⟨h1, h2⟩
      exact ⟨Or.inr ⟨hs, h1⟩, (runX_run (hP.next _ _ h1)).2 h2⟩
theorem runX_acc {l : List Nat} : RunX P 60 l ↔ P.Acc l := by
  have := hP.room
  cases l with
  | nil =>
    simp only [RunX, GP.Acc]
    constructor
    · rintro (⟨h, _⟩ | ⟨_, h⟩)
      · omega
      · exact h
    · intro h; exact Or.inr ⟨trivial, h⟩
  | cons b r =>
    simp only [RunX, GP.Acc]
    constructor
    · rintro ⟨h1 | h1, h2⟩
      · exact ⟨h1.2, (runX_run hP (hP.first _ h1.2)).1 h2⟩
      · omega
    · rintro ⟨h1, h2⟩
      exact ⟨Or.inl ⟨rfl, h1⟩, (runX_run hP (hP.first _ h1)).2 h2⟩
end

section
variable {m : MP} {ns : List AN} {P : GP} {fold whole : Bool} {t : ByteArray} (hm : MF m ns P fold whole)
include hm

def Sub (P : GP) (S : B64) : Prop := ∀ b, S.getLsbD b = true → b < P.count ∨ b = 60 ∨ b = 61
omit hm in
theorem runX_no {l : List Nat} (hP : P.Fit) : ¬ RunX P 61 l := by
  have := hP.room
  cases l with
  | nil => rintro (⟨h, _⟩ | ⟨h, _⟩) <;> omega
  | cons b r => rintro ⟨⟨h, _⟩ | ⟨h, _⟩, _⟩ <;> omega
theorem follow_nx {S : B64} (hS : Sub P S) {b : Nat} : (followP m S).getLsbD b = true ↔ ∃ s, S.getLsbD s = true ∧ Nx P s b := by
  have hr := hm.fit.room
  unfold followP
  rw [follow_bit]
  constructor
  · rintro ⟨s, h1, h2, h3⟩
    refine ⟨s, h2, ?_⟩
    rcases hS s h2 with h | h | h
    · rw [hm.next s h] at h3; exact Or.inr ⟨h, h3⟩
    · subst h; rw [hm.start] at h3; exact Or.inl ⟨rfl, h3⟩
    · omega
  · rintro ⟨s, h1, ⟨h2, h3⟩ | ⟨h2, h3⟩⟩
    · subst h2; exact ⟨60, by omega, h1, by rw [hm.start]; exact h3⟩
    · exact ⟨s, by omega, h1, by rw [hm.next s h2]; exact h3⟩
theorem last_run {s : Nat} (h : m.last.getLsbD s = true) : RunX P s [] := by
  rcases (hm.last s).1 h with h | h
  · exact Or.inl ⟨hm.fit.last _ h, h⟩
  · exact Or.inr h
theorem run_last {s : Nat} (h : RunX P s []) : m.last.getLsbD s = true := by
  rcases h with h | h
  · exact (hm.last s).2 (Or.inl h.2)
  · exact (hm.last s).2 (Or.inr h)
theorem free_lt {e : Bool} {b : Nat} (h : (freeP m e).getLsbD b = true) : b < P.count := by
  unfold freeP at h
  split at h
  · rw [bit_or, Bool.or_eq_true] at h
    rcases h with h | h
    · exact ((hm.ends b).1 h).1
    · exact ((hm.begins b).1 h).1
  · exact ((hm.ends b).1 h).1
theorem still_sub {S free : B64} (hS : Sub P S) (hf : ∀ b, free.getLsbD b = true → b < P.count) : Sub P (stillP m S free) := fun b h =>
  have _ := hm
  still_sound (Q := fun b => b < P.count ∨ b = 60 ∨ b = 61) hS (fun _ _ b _ h2 => Or.inl (hf b h2)) 60 b h

/-- What the set holds at the beginning. -/
theorem begin_facts : (∀ b, (beginP m).getLsbD b = true → b < P.count ∨ b = 60) ∧ (beginP m).getLsbD 60 = true ∧
    (∀ b, (beginP m).getLsbD b = true → ∀ l j, RunX P b l → Tr ns fold t (l.map P.node) 0 j → ∃ l', RunX P 60 l' ∧ Tr ns fold t (l'.map P.node) 0 j) ∧
    (∀ b, (followP m (beginP m)).getLsbD b = true → m.begins.getLsbD b = true → (beginP m).getLsbD b = true) := by
  have hr := hm.fit.room
  have hf : ∀ b, m.begins.getLsbD b = true → b < P.count := fun b h => ((hm.begins b).1 h).1
  have h1 : ∀ b, (beginP m).getLsbD b = true → b < P.count ∨ b = 60 := fun b h =>
    still_sound (Q := fun b => b < P.count ∨ b = 60) (fun b h => Or.inr (start_bit.1 h)) (fun _ _ b _ h2 => Or.inl (hf b h2)) 60 b h
  refine ⟨h1, still_up (start_bit.2 rfl) 60, ?_, fun b h2 h3 => still_closed (fun b h => by have := hf b h; omega) h2 h3⟩
  intro b hb
  have h2 := still_sound (m := m) (S := startB) (free := m.begins) (Q := fun b => (b < P.count ∨ b = 60) ∧ ∀ l j, RunX P b l → Tr ns fold t (l.map P.node) 0 j → ∃ l', RunX P 60 l' ∧ Tr ns fold t (l'.map P.node) 0 j)
    (fun b h => by
      have := start_bit.1 h
      subst this
      exact ⟨Or.inr rfl, fun l j h1 h2 => ⟨l, h1, h2⟩⟩)
    (fun S' hS' b h2 h3 => by
      refine ⟨Or.inl (hf b h3), fun l j h4 h5 => ?_⟩
      obtain ⟨s, hs, hn⟩ := (follow_nx hm (fun b h => (hS' b h).1.elim Or.inl (fun h => Or.inr (Or.inl h)))).1 h2
      obtain ⟨_, n, hn1, hn2⟩ := (hm.begins b).1 h3
      exact (hS' s hs).2 (b :: l) j ⟨hn, h4⟩ ⟨0, ⟨n, hn1, Or.inr (Or.inl ⟨hn2, rfl, rfl⟩)⟩, h5⟩)
    60 b hb
  exact h2.2

omit hm in
theorem takes_go {q b : Nat} (hm : MF m ns P fold whole) (hq : q < t.size) : (m.takes t[q].toNat).getLsbD b = true ↔ b < P.count ∧ ∃ n, ns[P.node b]? = some n ∧ n.kind = 1 ∧ takesP n fold t[q].toNat = true := by
  rw [hm.takes]
  exact ⟨fun h => h.2, fun h => ⟨t[q].toNat_lt, h⟩⟩
/-- One byte on: the steps that are that byte. -/
theorem after_bit {S : B64} (hS : Sub P S) {q b : Nat} (hq : q < t.size) : (afterP m S t[q].toNat).getLsbD b = true ↔ ∃ s, S.getLsbD s = true ∧ Nx P s b ∧ ∃ n, ns[P.node b]? = some n ∧ n.kind = 1 ∧ takesP n fold t[q].toNat = true := by
  unfold afterP
  rw [bit_and, Bool.and_eq_true, follow_nx hm hS, takes_go hm hq]
  constructor
  · rintro ⟨⟨s, h1, h2⟩, _, h3⟩; exact ⟨s, h1, h2, h3⟩
  · rintro ⟨s, h1, h2, h3⟩; exact ⟨⟨s, h1, h2⟩, h2.lt hm.fit, h3⟩

/-- What is at hand at the end of the line. -/
theorem end_sound {S : B64} {X : Prop} (hS : Sub P S) (h0 : ∀ b l j, S.getLsbD b = true → RunX P b l → Tr ns fold t (l.map P.node) t.size j → X) :
    ∀ b, (stillP m S (freeP m (t.size == 0))).getLsbD b = true → ∀ l j, RunX P b l → Tr ns fold t (l.map P.node) t.size j → X := by
  intro b hb
  have h2 := still_sound (m := m) (S := S) (free := freeP m (t.size == 0)) (Q := fun b => (b < P.count ∨ b = 60 ∨ b = 61) ∧ ∀ l j, RunX P b l → Tr ns fold t (l.map P.node) t.size j → X)
    (fun b h => ⟨hS b h, fun l j => h0 b l j h⟩)
    (fun S' hS' b h2 h3 => by
      refine ⟨Or.inl (free_lt hm h3), fun l j h4 h5 => ?_⟩
      obtain ⟨s, hs, hn⟩ := (follow_nx hm (fun b h => (hS' b h).1)).1 h2
      refine (hS' s hs).2 (b :: l) j ⟨hn, h4⟩ ⟨t.size, ?_, h5⟩
      unfold freeP at h3
      split at h3
      · rename_i hz
        have hz : t.size = 0 := by simpa using hz
        rw [bit_or, Bool.or_eq_true] at h3
        rcases h3 with h3 | h3
        · obtain ⟨_, n, hn1, hn2⟩ := (hm.ends b).1 h3
          exact ⟨n, hn1, Or.inr (Or.inr ⟨hn2, rfl, rfl⟩)⟩
        · obtain ⟨_, n, hn1, hn2⟩ := (hm.begins b).1 h3
          exact ⟨n, hn1, Or.inr (Or.inl ⟨hn2, hz, hz⟩)⟩
      · obtain ⟨_, n, hn1, hn2⟩ := (hm.ends b).1 h3
        exact ⟨n, hn1, Or.inr (Or.inr ⟨hn2, rfl, rfl⟩)⟩)
    60 b hb
  exact h2.2
theorem end_compl {S : B64} (hS : Sub P S) : ∀ (l : List Nat) (b : Nat), (stillP m S (freeP m (t.size == 0))).getLsbD b = true → RunX P b l → (∃ j, Tr ns fold t (l.map P.node) t.size j) → ∃ s, (stillP m S (freeP m (t.size == 0))).getLsbD s = true ∧ m.last.getLsbD s = true
  | [], b, hb, hr, _ => ⟨b, hb, run_last hm hr⟩
  | c :: r, b, hb, hr, ⟨j, k, ⟨n, hn, hg⟩, h2⟩ => by
    have hroom := hm.fit.room
    have hc := hr.1.lt hm.fit
    have hfl : (followP m (stillP m S (freeP m (t.size == 0)))).getLsbD c = true := (follow_nx hm (still_sub hm hS (fun b h => free_lt hm h))).2 ⟨b, hb, hr.1⟩
    have hclose : (freeP m (t.size == 0)).getLsbD c = true → (stillP m S (freeP m (t.size == 0))).getLsbD c = true := fun h => still_closed (fun b h => by have := free_lt hm h; omega) hfl h
    rcases hg with ⟨_, _, h3, _⟩ | ⟨hk, hz, rfl⟩ | ⟨hk, _, rfl⟩
    · omega
    · refine end_compl hS r c (hclose ?_) hr.2 ⟨j, by rw [hz]; exact h2⟩
      unfold freeP
      rw [if_pos (by simp [hz]), bit_or, Bool.or_eq_true]
      exact Or.inr ((hm.begins c).2 ⟨hc, n, hn, hk⟩)
    · refine end_compl hS r c (hclose ?_) hr.2 ⟨j, h2⟩
      have he : m.ends.getLsbD c = true := (hm.ends c).2 ⟨hc, n, hn, hk⟩
      unfold freeP
      split
      · rw [bit_or, Bool.or_eq_true]; exact Or.inl he
      · exact he
theorem accepts_iff {S : B64} : acceptsP m S (t.size == 0) = true ↔ ∃ b, (stillP m S (freeP m (t.size == 0))).getLsbD b = true ∧ (m.last.getLsbD b = true ∨ b = 61) := by
  have _ := hm
  unfold acceptsP
  rw [Bool.not_eq_true', decide_eq_false_iff_not, u_none]
  constructor
  · intro h
    apply Classical.byContradiction
    intro hc
    apply h
    intro i
    cases hi : (stillP m S (freeP m (t.size == 0)) &&& (m.last ||| foundB)).getLsbD i with
    | false => rfl
    | true =>
      exfalso
      rw [bit_and, bit_or, Bool.and_eq_true, Bool.or_eq_true, found_bit] at hi
      exact hc ⟨i, hi.1, hi.2⟩
  · rintro ⟨b, h1, h2⟩ hc
    have := hc b
    rw [bit_and, bit_or, h1] at this
    rcases h2 with h2 | h2
    · rw [h2] at this; simp at this
    · rw [found_bit.2 h2] at this; simp at this
end

/- THE WHOLE LINE. -/
section
variable {m : MP} {ns : List AN} {P : GP} {fold : Bool} {t : ByteArray} (hm : MF m ns P fold true)
include hm
def MatchW (P : GP) (ns : List AN) (fold : Bool) (t : ByteArray) : Prop := ∃ l, RunX P 60 l ∧ Tr ns fold t (l.map P.node) 0 t.size
structure InvW (m : MP) (ns : List AN) (P : GP) (fold : Bool) (t : ByteArray) (q : Nat) (S : B64) : Prop where
  sub : ∀ b, S.getLsbD b = true → b < P.count ∨ b = 60
  sound : ∀ b l j, S.getLsbD b = true → RunX P b l → Tr ns fold t (l.map P.node) q j → j = t.size → MatchW P ns fold t
  compl : MatchW P ns fold t → ∃ b l, S.getLsbD b = true ∧ RunX P b l ∧ Tr ns fold t (l.map P.node) q t.size
  closed : q = 0 → ∀ b, (followP m S).getLsbD b = true → m.begins.getLsbD b = true → S.getLsbD b = true

/-- Either the line is at its end here, or some step is the next byte. -/
theorem go_on {S : B64} {q : Nat} (hS : Sub P S) (hq : q < t.size) (hcl : q = 0 → ∀ b, (followP m S).getLsbD b = true → m.begins.getLsbD b = true → S.getLsbD b = true) :
    ∀ (l : List Nat) (b : Nat) (j : Nat), S.getLsbD b = true → RunX P b l → Tr ns fold t (l.map P.node) q j → (∃ s, S.getLsbD s = true ∧ m.last.getLsbD s = true ∧ j = q) ∨ ∃ c r, (afterP m S t[q].toNat).getLsbD c = true ∧ RunX P c r ∧ Tr ns fold t (r.map P.node) (q + 1) j
  | [], b, j, hb, hr, htr => Or.inl ⟨b, hb, run_last hm hr, htr.1.symm⟩
  | c :: r, b, j, hb, hr, ⟨k, ⟨n, hn, hg⟩, h2⟩ => by
    have hc := hr.1.lt hm.fit
    rcases hg with ⟨hk, rfl, h3, h4⟩ | ⟨hk, hz, rfl⟩ | ⟨hk, hz, _⟩
    · exact Or.inr ⟨c, r, (after_bit hm hS hq).2 ⟨b, hb, hr.1, n, hn, hk, h4⟩, hr.2, h2⟩
    · subst hz
      exact go_on hS hq hcl r c j (hcl rfl c ((follow_nx hm hS).2 ⟨b, hb, hr.1⟩) ((hm.begins c).2 ⟨hc, n, hn, hk⟩)) hr.2 h2
    · omega

theorem invW : ∀ q, q ≤ t.size → InvW m ns P fold t q (setQ m t q)
  | 0, _ => by
    obtain ⟨h1, h2, h3, h4⟩ := begin_facts (t := t) hm
    refine ⟨h1, fun b l j hb hr htr hj => ?_, ?_, fun _ => h4⟩
    · subst hj; exact h3 b hb l _ hr htr
    · rintro ⟨l, hl, htr⟩; exact ⟨60, l, h2, hl, htr⟩
  | q + 1, hq => by
    have ih := invW q (by omega)
    have hS : Sub P (setQ m t q) := fun b h => (ih.sub b h).elim Or.inl (fun h => Or.inr (Or.inl h))
    have hqt : q < t.size := by omega
    have e : setQ m t (q + 1) = afterP m (setQ m t q) t[q].toNat := by
      rw [setQ, dif_pos hqt]; unfold behindP; rw [if_pos hm.whole]
    rw [e]
    refine ⟨fun b h => ?_, fun b l j hb hr htr hj => ?_, fun hM => ?_, fun h => by omega⟩
    · obtain ⟨s, _, hn, _⟩ := (after_bit hm hS hqt).1 h
      exact Or.inl (hn.lt hm.fit)
    · obtain ⟨s, hs, hn, n, hn1, hn2, hn3⟩ := (after_bit hm hS hqt).1 hb
      exact ih.sound s (b :: l) j hs ⟨hn, hr⟩ ⟨q + 1, ⟨n, hn1, Or.inl ⟨hn2, rfl, hqt, hn3⟩⟩, htr⟩ hj
    · obtain ⟨b, l, hb, hr, htr⟩ := ih.compl hM
      rcases go_on hm hS hqt ih.closed l b _ hb hr htr with ⟨_, _, _, h⟩ | ⟨c, r, h1, h2, h3⟩
      · omega
      · exact ⟨c, r, h1, h2, h3⟩

theorem whole_iff : matchesP m t = true ↔ MatchW P ns fold t := by
  have inv := invW (t := t) hm t.size (Nat.le_refl _)
  have hS : Sub P (setQ m t t.size) := fun b h => (inv.sub b h).elim Or.inl (fun h => Or.inr (Or.inl h))
  have hroom := hm.fit.room
  unfold matchesP
  rw [accepts_iff hm]
  constructor
  · rintro ⟨b, hb, h | h⟩
    · refine end_sound hm hS (X := MatchW P ns fold t) (fun b l j h1 h2 h3 => inv.sound b l j h1 h2 h3 (by have := h3.le; omega)) b hb [] t.size (last_run hm h) ⟨rfl, Nat.le_refl _⟩
    · subst h
      exfalso
      have h1 := still_sound (m := m) (S := setQ m t t.size) (free := freeP m (t.size == 0)) (Q := fun b => b < P.count ∨ b = 60) inv.sub (fun _ _ b _ h2 => Or.inl (free_lt hm h2)) 60 61 hb
      omega
  · intro h
    obtain ⟨b, l, hb, hr, htr⟩ := inv.compl h
    obtain ⟨s, h1, h2⟩ := end_compl hm hS l b (still_up hb 60) hr ⟨_, htr⟩
    exact ⟨s, h1, Or.inl h2⟩
end

/- SOMEWHERE IN THE LINE. -/
section
variable {m : MP} {ns : List AN} {P : GP} {fold : Bool} {t : ByteArray} (hm : MF m ns P fold false)
include hm
def MatchA (P : GP) (ns : List AN) (fold : Bool) (t : ByteArray) : Prop := ∃ i j l, RunX P 60 l ∧ Tr ns fold t (l.map P.node) i j
structure InvA (m : MP) (ns : List AN) (P : GP) (fold : Bool) (t : ByteArray) (q : Nat) (S : B64) : Prop where
  sub : Sub P S
  found : S.getLsbD 61 = true → MatchA P ns fold t
  sound : ∀ b l j, S.getLsbD b = true → RunX P b l → Tr ns fold t (l.map P.node) q j → MatchA P ns fold t
  compl : MatchA P ns fold t → S.getLsbD 61 = true ∨ (∃ b l j, S.getLsbD b = true ∧ RunX P b l ∧ Tr ns fold t (l.map P.node) q j) ∨ ∃ i l j, q < i ∧ RunX P 60 l ∧ Tr ns fold t (l.map P.node) i j
  closed : q = 0 → ∀ b, (followP m S).getLsbD b = true → m.begins.getLsbD b = true → S.getLsbD b = true

theorem go_onA {S : B64} {q : Nat} (hS : Sub P S) (hq : q < t.size) (hcl : q = 0 → ∀ b, (followP m S).getLsbD b = true → m.begins.getLsbD b = true → S.getLsbD b = true) :
    ∀ (l : List Nat) (b : Nat) (j : Nat), S.getLsbD b = true → RunX P b l → Tr ns fold t (l.map P.node) q j → (∃ s, S.getLsbD s = true ∧ m.last.getLsbD s = true) ∨ ∃ c r, (afterP m S t[q].toNat).getLsbD c = true ∧ RunX P c r ∧ Tr ns fold t (r.map P.node) (q + 1) j
  | [], b, j, hb, hr, htr => Or.inl ⟨b, hb, run_last hm hr⟩
  | c :: r, b, j, hb, hr, ⟨k, ⟨n, hn, hg⟩, h2⟩ => by
    have hc := hr.1.lt hm.fit
    rcases hg with ⟨hk, rfl, h3, h4⟩ | ⟨hk, hz, rfl⟩ | ⟨hk, hz, _⟩
    · exact Or.inr ⟨c, r, (after_bit hm hS hq).2 ⟨b, hb, hr.1, n, hn, hk, h4⟩, hr.2, h2⟩
    · subst hz
      exact go_onA hS hq hcl r c j (hcl rfl c ((follow_nx hm hS).2 ⟨b, hb, hr.1⟩) ((hm.begins c).2 ⟨hc, n, hn, hk⟩)) hr.2 h2
    · omega

omit hm in
theorem and_none {A B : B64} : A &&& B = 0#64 ↔ ¬ ∃ s, A.getLsbD s = true ∧ B.getLsbD s = true := by
  rw [u_none]
  constructor
  · rintro h ⟨s, h1, h2⟩
    have := h s
    rw [bit_and, h1, h2] at this
    simp at this
  · intro h i
    rw [bit_and]
    cases h1 : A.getLsbD i with
    | false => rfl
    | true =>
      cases h2 : B.getLsbD i with
      | false => rfl
      | true => exact absurd ⟨i, h1, h2⟩ h
theorem behind_bit {S : B64} {c b : Nat} : (behindP m S c).getLsbD b = true ↔ (afterP m S c).getLsbD b = true ∨ (b = 61 ∧ ∃ s, S.getLsbD s = true ∧ m.last.getLsbD s = true) ∨ (b = 61 ∧ S.getLsbD 61 = true) ∨ b = 60 := by
  unfold behindP
  rw [if_neg (by rw [hm.whole]; decide), bit_or, bit_or, bit_and, Bool.or_eq_true, Bool.or_eq_true, Bool.and_eq_true, start_bit, found_bit]
  have hF : (S.getLsbD b = true ∧ b = 61) ↔ (b = 61 ∧ S.getLsbD 61 = true) := by
    constructor
    · rintro ⟨h1, rfl⟩; exact ⟨rfl, h1⟩
    · rintro ⟨rfl, h1⟩; exact ⟨h1, rfl⟩
  rw [hF]
  by_cases hz : S &&& m.last = 0#64
  · rw [if_pos hz]
    have := and_none.1 hz
    constructor
    · rintro ((h | h) | h)
      · exact Or.inl h
      · exact Or.inr (Or.inr (Or.inl h))
      · exact Or.inr (Or.inr (Or.inr h))
    · rintro (h | ⟨_, h⟩ | h | h)
      · exact Or.inl (Or.inl h)
      · exact absurd h this
      · exact Or.inl (Or.inr h)
      · exact Or.inr h
  · rw [if_neg hz, bit_or, Bool.or_eq_true, found_bit]
    have hex : ∃ s, S.getLsbD s = true ∧ m.last.getLsbD s = true := Classical.byContradiction fun hc => hz (and_none.2 hc)
    constructor
    · rintro (((h | h) | h) | h)
      · exact Or.inl h
      · exact Or.inr (Or.inl ⟨h, hex⟩)
      · exact Or.inr (Or.inr (Or.inl h))
      · exact Or.inr (Or.inr (Or.inr h))
    · rintro (h | ⟨h, _⟩ | h | h)
      · exact Or.inl (Or.inl (Or.inl h))
      · exact Or.inl (Or.inl (Or.inr h))
      · exact Or.inl (Or.inr h)
      · exact Or.inr h

theorem invA : ∀ q, q ≤ t.size → InvA m ns P fold t q (setQ m t q)
  | 0, _ => by
    have hroom := hm.fit.room
    obtain ⟨h1, h2, h3, h4⟩ := begin_facts (t := t) hm
    refine ⟨fun b h => (h1 b h).elim Or.inl (fun h => Or.inr (Or.inl h)), fun h => ?_, fun b l j hb hr htr => ?_, ?_, fun _ => h4⟩
    · have := h1 _ h; omega
    · obtain ⟨l', h5, h6⟩ := h3 b hb l _ hr htr
      exact ⟨0, j, l', h5, h6⟩
    · rintro ⟨i, j, l, hl, htr⟩
      by_cases hi : i = 0
      · subst hi; exact Or.inr (Or.inl ⟨60, l, j, h2, hl, htr⟩)
      · exact Or.inr (Or.inr ⟨i, l, j, by omega, hl, htr⟩)
  | q + 1, hq => by
    have hroom := hm.fit.room
    have ih := invA q (by omega)
    have hqt : q < t.size := by omega
    have e : setQ m t (q + 1) = behindP m (setQ m t q) t[q].toNat := by rw [setQ, dif_pos hqt]
    rw [e]
    have fnd : (∃ s, (setQ m t q).getLsbD s = true ∧ m.last.getLsbD s = true) → MatchA P ns fold t := by
      rintro ⟨s, h1, h2⟩
      exact ih.sound s [] q h1 (last_run hm h2) ⟨rfl, by omega⟩
    refine ⟨fun b h => ?_, fun h => ?_, fun b l j hb hr htr => ?_, fun hM => ?_, fun h => by omega⟩
    · rcases (behind_bit hm).1 h with h | h | h | h
      · obtain ⟨s, _, hn, _⟩ := (after_bit hm ih.sub hqt).1 h
        exact Or.inl (hn.lt hm.fit)
      · exact Or.inr (Or.inr h.1)
      · exact Or.inr (Or.inr h.1)
      · exact Or.inr (Or.inl h)
    · rcases (behind_bit hm).1 h with h | h | h | h
      · obtain ⟨s, _, hn, _⟩ := (after_bit hm ih.sub hqt).1 h
        have := hn.lt hm.fit
        omega
      · exact fnd h.2
      · exact ih.found h.2
      · omega
    · rcases (behind_bit hm).1 hb with h | h | h | h
      · obtain ⟨s, hs, hn, n, hn1, hn2, hn3⟩ := (after_bit hm ih.sub hqt).1 h
        exact ih.sound s (b :: l) j hs ⟨hn, hr⟩ ⟨q + 1, ⟨n, hn1, Or.inl ⟨hn2, rfl, hqt, hn3⟩⟩, htr⟩
      · exact fnd h.2
      · exact ih.found h.2
      · subst h; exact ⟨q + 1, j, l, hr, htr⟩
    · rcases ih.compl hM with h | ⟨b, l, j, hb, hr, htr⟩ | ⟨i, l, j, hi, hr, htr⟩
      · exact Or.inl ((behind_bit hm).2 (Or.inr (Or.inr (Or.inl ⟨rfl, h⟩))))
      · rcases go_onA hm ih.sub hqt ih.closed l b j hb hr htr with h | ⟨c, r, h1, h2, h3⟩
        · exact Or.inl ((behind_bit hm).2 (Or.inr (Or.inl ⟨rfl, h⟩)))
        · exact Or.inr (Or.inl ⟨c, r, j, (behind_bit hm).2 (Or.inl h1), h2, h3⟩)
      · by_cases hi1 : i = q + 1
        · subst hi1
          exact Or.inr (Or.inl ⟨60, l, j, (behind_bit hm).2 (Or.inr (Or.inr (Or.inr rfl))), hr, htr⟩)
        · exact Or.inr (Or.inr ⟨i, l, j, by omega, hr, htr⟩)

theorem any_iff : matchesP m t = true ↔ MatchA P ns fold t := by
  have inv := invA (t := t) hm t.size (Nat.le_refl _)
  have hroom := hm.fit.room
  unfold matchesP
  rw [accepts_iff hm]
  constructor
  · rintro ⟨b, hb, h | h⟩
    · exact end_sound hm inv.sub (X := MatchA P ns fold t) (fun b l j h1 h2 h3 => inv.sound b l j h1 h2 h3) b hb [] t.size (last_run hm h) ⟨rfl, Nat.le_refl _⟩
    · subst h
      have h1 := still_sound (m := m) (S := setQ m t t.size) (free := freeP m (t.size == 0)) (Q := fun b => b < P.count ∨ b = 60 ∨ (b = 61 ∧ (setQ m t t.size).getLsbD 61 = true))
        (fun b h => by
          rcases inv.sub b h with h1 | h1 | h1
          · exact Or.inl h1
          · exact Or.inr (Or.inl h1)
          · subst h1; exact Or.inr (Or.inr ⟨rfl, h⟩)) (fun _ _ b _ h2 => Or.inl (free_lt hm h2)) 60 61 hb
      rcases h1 with h1 | h1 | h1
      · omega
      · omega
      · exact inv.found h1.2
  · intro h
    rcases inv.compl h with h | ⟨b, l, j, hb, hr, htr⟩ | ⟨i, l, j, hi, hr, htr⟩
    · exact ⟨61, still_up h 60, Or.inr rfl⟩
    · obtain ⟨s, h1, h2⟩ := end_compl hm inv.sub l b (still_up hb 60) hr ⟨_, htr⟩
      exact ⟨s, h1, Or.inl h2⟩
    · have := htr.le
      omega
end

end Go.Proofs.Ytjhmkkhnnijigaa
