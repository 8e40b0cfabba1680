/- The machine as plain data: it finds just the lines that the pattern's words match. No Go in it. -/
import Derived.Test.YtgifhgnccmnbiaaG10
import Derived.Test.YtgifhgnccmnbiaaG08
import Derived.Test.YtgifhgnccmnbiaaG07
set_option linter.unusedVariables false
set_option linter.unusedSimpArgs false
namespace Go.Proofs.Ytgifhgnccmnbiaa

/-- From state s (60: ahead of all steps) to step b. -/
def Nx (P : GP) (s b : Nat) : Prop := (s = 60 ∧ P.first.getLsbD b = true) ∨ (s < P.count ∧ (P.next s).getLsbD b = true)
def RunX (P : GP) : Nat → List Nat → Prop
  | s, [] => (s < P.count ∧ P.last.getLsbD s = true) ∨ (s = 60 ∧ P.empty = true)
  | s, b :: r => Nx P s b ∧ RunX P b r

section
variable {P : GP} (hP : P.Fit)
include hP
theorem Nx.lt {s b : Nat} (h : Nx P s b) : b < P.count := by
  rcases h with ⟨_, h⟩ | ⟨_, h⟩
  · exact hP.first _ h
  · exact hP.next _ _ h
theorem runX_run : ∀ {l : List Nat} {s : Nat}, s < P.count → (RunX P s l ↔ P.Run s l)
  | [], s, hs => by
    have := hP.room
    simp only [RunX, GP.Run]
    constructor
    · rintro (⟨_, h⟩ | ⟨h, _⟩)
      · exact h
      · omega
    · intro h; exact Or.inl ⟨hs, h⟩
  | b :: r, s, hs => by
    have := hP.room
    simp only [RunX, GP.Run]
    constructor
    · rintro ⟨h1 | h1, h2⟩
      · omega
      · exact ⟨h1.2, (runX_run (hP.next _ _ h1.2)).1 h2⟩
    · rintro ⟨h1, h2⟩
      exact ⟨Or.inr ⟨hs, h1⟩, (runX_run (hP.next _ _ h1)).2 h2⟩
theorem runX_acc {l : List Nat} : RunX P 60 l ↔ P.Acc l := by
  have := hP.room
  cases l with
  | nil =>
    simp only [RunX, GP.Acc]
    constructor
    · rintro (⟨h, _⟩ | ⟨_, h⟩)
      · omega
      · exact h
    · intro h; exact Or.inr ⟨trivial, h⟩
  | cons b r =>
    simp only [RunX, GP.Acc]
    constructor
    · rintro ⟨h1 | h1, h2⟩
      · exact ⟨h1.2, (runX_run hP (hP.first _ h1.2)).1 h2⟩
      · omega
    · rintro ⟨h1, h2⟩
      exact ⟨Or.inl ⟨rfl, h1⟩, (runX_run hP (hP.first _ h1)).2 h2⟩
end

section
variable {m : MP} {ns : List AN} {P : GP} {fold whole : Bool} {t : ByteArray} (hm : MF m ns P fold whole)
include hm

def Sub (P : GP) (S : B64) : Prop := ∀ b, S.getLsbD b = true → b < P.count ∨ b = 60 ∨ b = 61
omit hm in
theorem runX_no {l : List Nat} (hP : P.Fit) : ¬ RunX P 61 l := by
  have := hP.room
  cases l with
  | nil => rintro (⟨h, _⟩ | ⟨h, _⟩) <;> omega
  | cons b r => rintro ⟨⟨h, _⟩ | ⟨h, _⟩, _⟩ <;> omega
theorem follow_nx {S : B64} (hS : Sub P S) {b : Nat} : (followP m S).getLsbD b = true ↔ ∃ s, S.getLsbD s = true ∧ Nx P s b := by
  have hr := hm.fit.room
  unfold followP
  rw [follow_bit]
  constructor
  · rintro ⟨s, h1, h2, h3⟩
    refine ⟨s, h2, ?_⟩
    rcases hS s h2 with h | h | h
    · rw [hm.next s h] at h3; exact Or.inr ⟨h, h3⟩
    · subst h; rw [hm.start] at h3; exact Or.inl ⟨rfl, h3⟩
    · omega
  · rintro ⟨s, h1, ⟨h2, h3⟩ | ⟨h2, h3⟩⟩
    · subst h2; exact ⟨60, by omega, h1, by rw [hm.start]; exact h3⟩
    · exact ⟨s, by omega, h1, by rw [hm.next s h2]; exact h3⟩
theorem last_run {s : Nat} (h : m.last.getLsbD s = true) : RunX P s [] := by
  rcases (hm.last s).1 h with h | h
  · exact Or.inl ⟨hm.fit.last _ h, h⟩
  · exact Or.inr h
theorem run_last {s : Nat} (h : RunX P s []) : m.last.getLsbD s = true := by
  rcases h with h | h
  · exact (hm.last s).2 (Or.inl h.2)
  · exact (hm.last s).2 (Or.inr h)
theorem free_lt {e : Bool} {b : Nat} (h : (freeP m e).getLsbD b = true) : b < P.count := by
  unfold freeP at h
  split at h
  · rw [bit_or, Bool.or_eq_true] at h
    rcases h with h | h
    · exact ((hm.ends b).1 h).1
    · exact ((hm.begins b).1 h).1
  · exact ((hm.ends b).1 h).1
theorem still_sub {S free : B64} (hS : Sub P S) (hf : ∀ b, free.getLsbD b = true → b < P.count) : Sub P (stillP m S free) := fun b h =>
  have _ := hm
  still_sound (Q := fun b => b < P.count ∨ b = 60 ∨ b = 61) hS (fun _ _ b _ h2 => Or.inl (hf b h2)) 60 b h

/-- What the set holds at the beginning. -/
theorem begin_facts : (∀ b, (beginP m).getLsbD b = true → b < P.count ∨ b = 60) ∧ (beginP m).getLsbD 60 = true ∧
    (∀ b, (beginP m).getLsbD b = true → ∀ l j, RunX P b l → Tr ns fold t (l.map P.node) 0 j → ∃ l', RunX P 60 l' ∧ Tr ns fold t (l'.map P.node) 0 j) ∧
    (∀ b, (followP m (beginP m)).getLsbD b = true → m.begins.getLsbD b = true → (beginP m).getLsbD b = true) := by
  have hr := hm.fit.room
  have hf : ∀ b, m.begins.getLsbD b = true → b < P.count := fun b h => ((hm.begins b).1 h).1
  have h1 : ∀ b, (beginP m).getLsbD b = true → b < P.count ∨ b = 60 := fun b h =>
    still_sound (Q := fun b => b < P.count ∨ b = 60) (fun b h => Or.inr (start_bit.1 h)) (fun _ _ b _ h2 => Or.inl (hf b h2)) 60 b h
  refine ⟨h1, still_up (start_bit.2 rfl) 60, ?_, fun b h2 h3 => still_closed (fun b h => by have := hf b h; omega) h2 h3⟩
  intro b hb
  have h2 := still_sound (m := m) (S := startB) (free := m.begins) (Q := fun b => (b < P.count ∨ b = 60) ∧ ∀ l j, RunX P b l → Tr ns fold t (l.map P.node) 0 j → ∃ l', RunX P 60 l' ∧ Tr ns fold t (l'.map P.node) 0 j)
    (fun b h => by
      have := start_bit.1 h
      subst this
      exact ⟨Or.inr rfl, fun l j h1 h2 => ⟨l, h1, h2⟩⟩)
    (fun S' hS' b h2 h3 => by
      refine ⟨Or.inl (hf b h3), fun l j h4 h5 => ?_⟩
      obtain ⟨s, hs, hn⟩ := (follow_nx hm (fun b h => (hS' b h).1.elim Or.inl (fun h => Or.inr (Or.inl h)))).1 h2
      obtain ⟨_, n, hn1, hn2⟩ := (hm.begins b).1 h3
      exact (hS' s hs).2 (b :: l) j ⟨hn, h4⟩ ⟨0, ⟨n, hn1, Or.inr (Or.inl ⟨hn2, rfl, rfl⟩)⟩, h5⟩)
    60 b hb
  exact h2.2

omit hm in
theorem takes_go {q b : Nat} (hm : MF m ns P fold whole) (hq : q < t.size) : (m.takes t[q].toNat).getLsbD b = true ↔ b < P.count ∧ ∃ n, ns[P.node b]? = some n ∧ n.kind = 1 ∧ takesP n fold t[q].toNat = true := by
  rw [hm.takes]
  exact ⟨fun h => h.2, fun h => ⟨t[q].toNat_lt, h⟩⟩
/-- One byte on: the steps that are that byte. -/
theorem after_bit {S : B64} (hS : Sub P S) {q b : Nat} (hq : q < t.size) : (afterP m S t[q].toNat).getLsbD b = true ↔ ∃ s, S.getLsbD s = true ∧ Nx P s b ∧ ∃ n, ns[P.node b]? = some n ∧ n.kind = 1 ∧ takesP n fold t[q].toNat = true := by
  unfold afterP
  rw [bit_and, Bool.and_eq_true, follow_nx hm hS, takes_go hm hq]
  constructor
  · rintro ⟨⟨s, h1, h2⟩, _, h3⟩; exact ⟨s, h1, h2, h3⟩
  · rintro ⟨s, h1, h2, h3⟩; exact ⟨⟨s, h1, h2⟩, h2.lt hm.fit, h3⟩

/-- What is at hand at the end of the line. -/
theorem end_sound {S : B64} {X : Prop} (hS : Sub P S) (h0 : ∀ b l j, S.getLsbD b = true → RunX P b l → Tr ns fold t (l.map P.node) t.size j → X) :
    ∀ b, (stillP m S (freeP m (t.size == 0))).getLsbD b = true → ∀ l j, RunX P b l → Tr ns fold t (l.map P.node) t.size j → X := by
  intro b hb
  have h2 := still_sound (m := m) (S := S) (free := freeP m (t.size == 0)) (Q := fun b => (b < P.count ∨ b = 60 ∨ b = 61) ∧ ∀ l j, RunX P b l → Tr ns fold t (l.map P.node) t.size j → X)
    (fun b h => ⟨hS b h, fun l j => h0 b l j h⟩)
    (fun S' hS' b h2 h3 => by
      refine ⟨Or.inl (free_lt hm h3), fun l j h4 h5 => ?_⟩
      obtain ⟨s, hs, hn⟩ := (follow_nx hm (fun b h => (hS' b h).1)).1 h2
      refine (hS' s hs).2 (b :: l) j ⟨hn, h4⟩ ⟨t.size, ?_, h5⟩
      unfold freeP at h3
      split at h3
      · rename_i hz
        have hz : t.size = 0 := by simpa using hz
        rw [bit_or, Bool.or_eq_true] at h3
        rcases h3 with h3 | h3
        · obtain ⟨_, n, hn1, hn2⟩ := (hm.ends b).1 h3
          exact ⟨n, hn1, Or.inr (Or.inr ⟨hn2, rfl, rfl⟩)⟩
        · obtain ⟨_, n, hn1, hn2⟩ := (hm.begins b).1 h3
          exact ⟨n, hn1, Or.inr (Or.inl ⟨hn2, hz, hz⟩)⟩
      · obtain ⟨_, n, hn1, hn2⟩ := (hm.ends b).1 h3
        exact ⟨n, hn1, Or.inr (Or.inr ⟨hn2, rfl, rfl⟩)⟩)
    60 b hb
  exact h2.2
theorem end_compl {S : B64} (hS : Sub P S) : ∀ (l : List Nat) (b : Nat), (stillP m S (freeP m (t.size == 0))).getLsbD b = true → RunX P b l → (∃ j, Tr ns fold t (l.map P.node) t.size j) → ∃ s, (stillP m S (freeP m (t.size == 0))).getLsbD s = true ∧ m.last.getLsbD s = true
  | [], b, hb, hr, _ => ⟨b, hb, run_last hm hr⟩
  | c :: r, b, hb, hr, ⟨j, k, ⟨n, hn, hg⟩, h2⟩ => by
    have hroom := hm.fit.room
    have hc := hr.1.lt hm.fit
    have hfl : (followP m (stillP m S (freeP m (t.size == 0)))).getLsbD c = true := (follow_nx hm (still_sub hm hS (fun b h => free_lt hm h))).2 ⟨b, hb, hr.1⟩
    have hclose : (freeP m (t.size == 0)).getLsbD c = true → (stillP m S (freeP m (t.size == 0))).getLsbD c = true := fun h => still_closed (fun b h => by have := free_lt hm h; omega) hfl h
    rcases hg with ⟨_, _, h3, _⟩ | ⟨hk, hz, rfl⟩ | ⟨hk, _, rfl⟩
    · omega
    · refine end_compl hS r c (hclose ?_) hr.2 ⟨j, by rw [hz]; exact h2⟩
      unfold freeP
      rw [if_pos (by simp [hz]), bit_or, Bool.or_eq_true]
      exact Or.inr ((hm.begins c).2 ⟨hc, n, hn, hk⟩)
    · refine end_compl hS r c (hclose ?_) hr.2 ⟨j, h2⟩
      have he : m.ends.getLsbD c = true := (hm.ends c).2 ⟨hc, n, hn, hk⟩
      unfold freeP
      split
      · rw [bit_or, Bool.or_eq_true]; exact Or.inl he
      · exact he
theorem accepts_iff {S : B64} : acceptsP m S (t.size == 0) = true ↔ ∃ b, (stillP m S (freeP m (t.size == 0))).getLsbD b = true ∧ (m.last.getLsbD b = true ∨ b = 61) := by
  have _ := hm
  unfold acceptsP
  rw [Bool.not_eq_true', decide_eq_false_iff_not, u_none]
  constructor
  · intro h
    apply Classical.byContradiction
    intro hc
    apply h
    intro i
    cases hi : (stillP m S (freeP m (t.size == 0)) &&& (m.last ||| foundB)).getLsbD i with
    | false => rfl
    | true =>
      exfalso
      rw [bit_and, bit_or, Bool.and_eq_true, Bool.or_eq_true, found_bit] at hi
      exact hc ⟨i, hi.1, hi.2⟩
  · rintro ⟨b, h1, h2⟩ hc
    have := hc b
    rw [bit_and, bit_or, h1] at this
    rcases h2 with h2 | h2
    · rw [h2] at this; simp at this
    · rw [found_bit.2 h2] at this; simp at this
end

/- THE WHOLE LINE. -/
section
variable {m : MP} {ns : List AN} {P : GP} {fold : Bool} {t : ByteArray} (hm : MF m ns P fold true)
include hm
def MatchW (P : GP) (ns : List AN) (fold : Bool) (t : ByteArray) : Prop := ∃ l, RunX P 60 l ∧ Tr ns fold t (l.map P.node) 0 t.size
structure InvW (m : MP) (ns : List AN) (P : GP) (fold : Bool) (t : ByteArray) (q : Nat) (S : B64) : Prop where
  sub : ∀ b, S.getLsbD b = true → b < P.count ∨ b = 60
  sound : ∀ b l j, S.getLsbD b = true → RunX P b l → Tr ns fold t (l.map P.node) q j → j = t.size → MatchW P ns fold t
  compl : MatchW P ns fold t → ∃ b l, S.getLsbD b = true ∧ RunX P b l ∧ Tr ns fold t (l.map P.node) q t.size
  closed : q = 0 → ∀ b, (followP m S).getLsbD b = true → m.begins.getLsbD b = true → S.getLsbD b = true

/-- Either the line is at its end here, or some step is the next byte. -/
theorem go_on {S : B64} {q : Nat} (hS : Sub P S) (hq : q < t.size) (hcl : q = 0 → ∀ b, (followP m S).getLsbD b = true → m.begins.getLsbD b = true → S.getLsbD b = true) :
    ∀ (l : List Nat) (b : Nat) (j : Nat), S.getLsbD b = true → RunX P b l → Tr ns fold t (l.map P.node) q j → (∃ s, S.getLsbD s = true ∧ m.last.getLsbD s = true ∧ j = q) ∨ ∃ c r, (afterP m S t[q].toNat).getLsbD c = true ∧ RunX P c r ∧ Tr ns fold t (r.map P.node) (q + 1) j
  | [], b, j, hb, hr, htr => Or.inl ⟨b, hb, run_last hm hr, htr.1.symm⟩
  | c :: r, b, j, hb, hr, ⟨k, ⟨n, hn, hg⟩, h2⟩ => by
    have hc := hr.1.lt hm.fit
    rcases hg with ⟨hk, rfl, h3, h4⟩ | ⟨hk, hz, rfl⟩ | ⟨hk, hz, _⟩
    · exact Or.inr ⟨c, r, (after_bit hm hS hq).2 ⟨b, hb, hr.1, n, hn, hk, h4⟩, hr.2, h2⟩
    · subst hz
      exact go_on hS hq hcl r c j (hcl rfl c ((follow_nx hm hS).2 ⟨b, hb, hr.1⟩) ((hm.begins c).2 ⟨hc, n, hn, hk⟩)) hr.2 h2
    · omega

theorem invW : ∀ q, q ≤ t.size → InvW m ns P fold t q (setQ m t q)
  | 0, _ => by
    obtain ⟨h1, h2, h3, h4⟩ := begin_facts (t := t) hm
    refine ⟨h1, fun b l j hb hr htr hj => ?_, ?_, fun _ => h4⟩
    · subst hj; exact h3 b hb l _ hr htr
    · rintro ⟨l, hl, htr⟩; exact ⟨60, l, h2, hl, htr⟩
  | q + 1, hq => by
    have ih := invW q (by omega)
    have hS : Sub P (setQ m t q) := fun b h => (ih.sub b h).elim Or.inl (fun h => Or.inr (Or.inl h))
    have hqt : q < t.size := by omega
    have e : setQ m t (q + 1) = afterP m (setQ m t q) t[q].toNat := by
      rw [setQ, dif_pos hqt]; unfold behindP; rw [if_pos hm.whole]
    rw [e]
    refine ⟨fun b h => ?_, fun b l j hb hr htr hj => ?_, fun hM => ?_, fun h => by omega⟩
    · obtain ⟨s, _, hn, _⟩ := (after_bit hm hS hqt).1 h
      exact Or.inl (hn.lt hm.fit)
    · obtain ⟨s, hs, hn, n, hn1, hn2, hn3⟩ := (after_bit hm hS hqt).1 hb
      exact ih.sound s (b :: l) j hs ⟨hn, hr⟩ ⟨q + 1, ⟨n, hn1, Or.inl ⟨hn2, rfl, hqt, hn3⟩⟩, htr⟩ hj
    · obtain ⟨b, l, hb, hr, htr⟩ := ih.compl hM
      rcases go_on hm hS hqt ih.closed l b _ hb hr htr with ⟨_, _, _, h⟩ | ⟨c, r, h1, h2, h3⟩
      · omega
      · exact ⟨c, r, h1, h2, h3⟩

theorem whole_iff : matchesP m t = true ↔ MatchW P ns fold t := by
  have inv := invW (t := t) hm t.size (Nat.le_refl _)
  have hS : Sub P (setQ m t t.size) := fun b h => (inv.sub b h).elim Or.inl (fun h => Or.inr (Or.inl h))
  have hroom := hm.fit.room
  unfold matchesP
  rw [accepts_iff hm]
  constructor
  · rintro ⟨b, hb, h | h⟩
    · refine end_sound hm hS (X := MatchW P ns fold t) (fun b l j h1 h2 h3 => inv.sound b l j h1 h2 h3 (by have := h3.le; omega)) b hb [] t.size (last_run hm h) ⟨rfl, Nat.le_refl _⟩
    · subst h
      exfalso
      have h1 := still_sound (m := m) (S := setQ m t t.size) (free := freeP m (t.size == 0)) (Q := fun b => b < P.count ∨ b = 60) inv.sub (fun _ _ b _ h2 => Or.inl (free_lt hm h2)) 60 61 hb
      omega
  · intro h
    obtain ⟨b, l, hb, hr, htr⟩ := inv.compl h
    obtain ⟨s, h1, h2⟩ := end_compl hm hS l b (still_up hb 60) hr ⟨_, htr⟩
    exact ⟨s, h1, Or.inl h2⟩
end

/- SOMEWHERE IN THE LINE. -/
section
variable {m : MP} {ns : List AN} {P : GP} {fold : Bool} {t : ByteArray} (hm : MF m ns P fold false)
include hm
def MatchA (P : GP) (ns : List AN) (fold : Bool) (t : ByteArray) : Prop := ∃ i j l, RunX P 60 l ∧ Tr ns fold t (l.map P.node) i j
structure InvA (m : MP) (ns : List AN) (P : GP) (fold : Bool) (t : ByteArray) (q : Nat) (S : B64) : Prop where
  sub : Sub P S
  found : S.getLsbD 61 = true → MatchA P ns fold t
  sound : ∀ b l j, S.getLsbD b = true → RunX P b l → Tr ns fold t (l.map P.node) q j → MatchA P ns fold t
  compl : MatchA P ns fold t → S.getLsbD 61 = true ∨ (∃ b l j, S.getLsbD b = true ∧ RunX P b l ∧ Tr ns fold t (l.map P.node) q j) ∨ ∃ i l j, q < i ∧ RunX P 60 l ∧ Tr ns fold t (l.map P.node) i j
  closed : q = 0 → ∀ b, (followP m S).getLsbD b = true → m.begins.getLsbD b = true → S.getLsbD b = true

theorem go_onA {S : B64} {q : Nat} (hS : Sub P S) (hq : q < t.size) (hcl : q = 0 → ∀ b, (followP m S).getLsbD b = true → m.begins.getLsbD b = true → S.getLsbD b = true) :
    ∀ (l : List Nat) (b : Nat) (j : Nat), S.getLsbD b = true → RunX P b l → Tr ns fold t (l.map P.node) q j → (∃ s, S.getLsbD s = true ∧ m.last.getLsbD s = true) ∨ ∃ c r, (afterP m S t[q].toNat).getLsbD c = true ∧ RunX P c r ∧ Tr ns fold t (r.map P.node) (q + 1) j
  | [], b, j, hb, hr, htr => Or.inl ⟨b, hb, run_last hm hr⟩
  | c :: r, b, j, hb, hr, ⟨k, ⟨n, hn, hg⟩, h2⟩ => by
    have hc := hr.1.lt hm.fit
    rcases hg with ⟨hk, rfl, h3, h4⟩ | ⟨hk, hz, rfl⟩ | ⟨hk, hz, _⟩
    · exact Or.inr ⟨c, r, (after_bit hm hS hq).2 ⟨b, hb, hr.1, n, hn, hk, h4⟩, hr.2, h2⟩
    · subst hz
      exact go_onA hS hq hcl r c j (hcl rfl c ((follow_nx hm hS).2 ⟨b, hb, hr.1⟩) ((hm.begins c).2 ⟨hc, n, hn, hk⟩)) hr.2 h2
    · omega

omit hm in
theorem and_none {A B : B64} : A &&& B = 0#64 ↔ ¬ ∃ s, A.getLsbD s = true ∧ B.getLsbD s = true := by
  rw [u_none]
  constructor
  · rintro h ⟨s, h1, h2⟩
    have := h s
    rw [bit_and, h1, h2] at this
    simp at this
  · intro h i
    rw [bit_and]
    cases h1 : A.getLsbD i with
    | false => rfl
    | true =>
      cases h2 : B.getLsbD i with
      | false => rfl
      | true => exact absurd ⟨i, h1, h2⟩ h
theorem behind_bit {S : B64} {c b : Nat} : (behindP m S c).getLsbD b = true ↔ (afterP m S c).getLsbD b = true ∨ (b = 61 ∧ ∃ s, S.getLsbD s = true ∧ m.last.getLsbD s = true) ∨ (b = 61 ∧ S.getLsbD 61 = true) ∨ b = 60 := by
  unfold behindP
  rw [if_neg (by rw [hm.whole]; decide), bit_or, bit_or, bit_and, Bool.or_eq_true, Bool.or_eq_true, Bool.and_eq_true, start_bit, found_bit]
  have hF : (S.getLsbD b = true ∧ b = 61) ↔ (b = 61 ∧ S.getLsbD 61 = true) := by
    constructor
    · rintro ⟨h1, rfl⟩; exact ⟨rfl, h1⟩
    · rintro ⟨rfl, h1⟩; exact ⟨h1, rfl⟩
  rw [hF]
  by_cases hz : S &&& m.last = 0#64
  · rw [if_pos hz]
    have := and_none.1 hz
    constructor
    · rintro ((h | h) | h)
      · exact Or.inl h
      · exact Or.inr (Or.inr (Or.inl h))
      · exact Or.inr (Or.inr (Or.inr h))
    · rintro (h | ⟨_, h⟩ | h | h)
      · exact Or.inl (Or.inl h)
      · exact absurd h this
      · exact Or.inl (Or.inr h)
      · exact Or.inr h
  · rw [if_neg hz, bit_or, Bool.or_eq_true, found_bit]
    have hex : ∃ s, S.getLsbD s = true ∧ m.last.getLsbD s = true := Classical.byContradiction fun hc => hz (and_none.2 hc)
    constructor
    · rintro (((h | h) | h) | h)
      · exact Or.inl h
      · exact Or.inr (Or.inl ⟨h, hex⟩)
      · exact Or.inr (Or.inr (Or.inl h))
      · exact Or.inr (Or.inr (Or.inr h))
    · rintro (h | ⟨h, _⟩ | h | h)
      · exact Or.inl (Or.inl (Or.inl h))
      · exact Or.inl (Or.inl (Or.inr h))
      · exact Or.inl (Or.inr h)
      · exact Or.inr h

theorem invA : ∀ q, q ≤ t.size → InvA m ns P fold t q (setQ m t q)
  | 0, _ => by
    have hroom := hm.fit.room
    obtain ⟨h1, h2, h3, h4⟩ := begin_facts (t := t) hm
    refine ⟨fun b h => (h1 b h).elim Or.inl (fun h => Or.inr (Or.inl h)), fun h => ?_, fun b l j hb hr htr => ?_, ?_, fun _ => h4⟩
    · have := h1 _ h; omega
    · obtain ⟨l', h5, h6⟩ := h3 b hb l _ hr htr
      exact ⟨0, j, l', h5, h6⟩
    · rintro ⟨i, j, l, hl, htr⟩
      by_cases hi : i = 0
      · subst hi; exact Or.inr (Or.inl ⟨60, l, j, h2, hl, htr⟩)
      · exact Or.inr (Or.inr ⟨i, l, j, by omega, hl, htr⟩)
  | q + 1, hq => by
    have hroom := hm.fit.room
    have ih := invA q (by omega)
    have hqt : q < t.size := by omega
    have e : setQ m t (q + 1) = behindP m (setQ m t q) t[q].toNat := by rw [setQ, dif_pos hqt]
    rw [e]
    have fnd : (∃ s, (setQ m t q).getLsbD s = true ∧ m.last.getLsbD s = true) → MatchA P ns fold t := by
      rintro ⟨s, h1, h2⟩
      exact ih.sound s [] q h1 (last_run hm h2) ⟨rfl, by omega⟩
    refine ⟨fun b h => ?_, fun h => ?_, fun b l j hb hr htr => ?_, fun hM => ?_, fun h => by omega⟩
    · rcases (behind_bit hm).1 h with h | h | h | h
      · obtain ⟨s, _, hn, _⟩ := (after_bit hm ih.sub hqt).1 h
        exact Or.inl (hn.lt hm.fit)
      · exact Or.inr (Or.inr h.1)
      · exact Or.inr (Or.inr h.1)
      · exact Or.inr (Or.inl h)
    · rcases (behind_bit hm).1 h with h | h | h | h
      · obtain ⟨s, _, hn, _⟩ := (after_bit hm ih.sub hqt).1 h
        have := hn.lt hm.fit
        omega
      · exact fnd h.2
      · exact ih.found h.2
      · omega
    · rcases (behind_bit hm).1 hb with h | h | h | h
      · obtain ⟨s, hs, hn, n, hn1, hn2, hn3⟩ := (after_bit hm ih.sub hqt).1 h
        exact ih.sound s (b :: l) j hs ⟨hn, hr⟩ ⟨q + 1, ⟨n, hn1, Or.inl ⟨hn2, rfl, hqt, hn3⟩⟩, htr⟩
      · exact fnd h.2
      · exact ih.found h.2
      · subst h; exact ⟨q + 1, j, l, hr, htr⟩
    · rcases ih.compl hM with h | ⟨b, l, j, hb, hr, htr⟩ | ⟨i, l, j, hi, hr, htr⟩
      · exact Or.inl ((behind_bit hm).2 (Or.inr (Or.inr (Or.inl ⟨rfl, h⟩))))
      · rcases go_onA hm ih.sub hqt ih.closed l b j hb hr htr with h | ⟨c, r, h1, h2, h3⟩
        · exact Or.inl ((behind_bit hm).2 (Or.inr (Or.inl ⟨rfl, h⟩)))
        · exact Or.inr (Or.inl ⟨c, r, j, (behind_bit hm).2 (Or.inl h1), h2, h3⟩)
      · by_cases hi1 : i = q + 1
        · subst hi1
          exact Or.inr (Or.inl ⟨60, l, j, (behind_bit hm).2 (Or.inr (Or.inr (Or.inr rfl))), hr, htr⟩)
        · exact Or.inr (Or.inr ⟨i, l, j, by omega, hr, htr⟩)

theorem any_iff : matchesP m t = true ↔ MatchA P ns fold t := by
  have inv := invA (t := t) hm t.size (Nat.le_refl _)
  have hroom := hm.fit.room
  unfold matchesP
  rw [accepts_iff hm]
  constructor
  · rintro ⟨b, hb, h | h⟩
    · exact end_sound hm inv.sub (X := MatchA P ns fold t) (fun b l j h1 h2 h3 => inv.sound b l j h1 h2 h3) b hb [] t.size (last_run hm h) ⟨rfl, Nat.le_refl _⟩
    · subst h
      have h1 := still_sound (m := m) (S := setQ m t t.size) (free := freeP m (t.size == 0)) (Q := fun b => b < P.count ∨ b = 60 ∨ (b = 61 ∧ (setQ m t t.size).getLsbD 61 = true))
        (fun b h => by
          rcases inv.sub b h with h1 | h1 | h1
          · exact Or.inl h1
          · exact Or.inr (Or.inl h1)
          · subst h1; exact Or.inr (Or.inr ⟨rfl, h⟩)) (fun _ _ b _ h2 => Or.inl (free_lt hm h2)) 60 61 hb
      rcases h1 with h1 | h1 | h1
      · omega
      · omega
      · exact inv.found h1.2
  · intro h
    rcases inv.compl h with h | ⟨b, l, j, hb, hr, htr⟩ | ⟨i, l, j, hi, hr, htr⟩
    · exact ⟨61, still_up h 60, Or.inr rfl⟩
    · obtain ⟨s, h1, h2⟩ := end_compl hm inv.sub l b (still_up hb 60) hr ⟨_, htr⟩
      exact ⟨s, h1, Or.inl h2⟩
    · have := htr.le
      omega
end

end Go.Proofs.Ytgifhgnccmnbiaa

set_option linter.unusedVariables false
set_option linter.unusedSimpArgs false
namespace Go.Proofs.Ytgifhgnccmnbiaa

def HiZ (m : MP) : Prop := ∀ s, 61 ≤ s → m.next s = 0#64
def Meet (A B : B64) : Prop := ∃ s, A.getLsbD s = true ∧ B.getLsbD s = true

theorem fresh_bit {b : Nat} : freshB.getLsbD b = true ↔ b = 62 := by
  have e : freshB = 1#64 <<< 62 := by decide
  rw [e]; exact one_bit (by decide)
theorem meet_iff {A B : B64} : (!decide (A &&& B = 0#64)) = true ↔ Meet A B := by
  rw [Bool.not_eq_true', decide_eq_false_iff_not, and_none]
  exact Classical.not_not
theorem meet_not {A B : B64} : A &&& B = 0#64 ↔ ¬ Meet A B := and_none

theorem follow_more {m : MP} {S S' : B64} (hz : HiZ m) (h : ∀ b, b < 61 → (S'.getLsbD b = true ↔ S.getLsbD b = true)) : followQ m S' 63 = followP m S := by
  apply BitVec.eq_of_getLsbD_eq
  intro b hb
  rw [Bool.eq_iff_iff]
  unfold followP
  rw [follow_bit, follow_bit]
  constructor
  · rintro ⟨s, h1, h2, h3⟩
    have hs : s < 61 := by
      apply Classical.byContradiction
      intro hc
      rw [hz s (by omega)] at h3
      simp at h3
    exact ⟨s, hs, (h s hs).1 h2, h3⟩
  · rintro ⟨s, h1, h2, h3⟩
    exact ⟨s, by omega, (h s h1).2 h2, h3⟩

theorem into_bit (m : MP) (tk S : B64) : ∀ q, q ≤ 63 → ∀ b, (intoQ m tk S q).getLsbD b = true ↔ b < q ∧ ∃ i, (m.next b).getLsbD i = true ∧ tk.getLsbD i = true ∧ S.getLsbD i = true
  | 0, _, b => by simp [intoQ]
  | q + 1, hq, b => by
    have ih := into_bit m tk S q (by omega) b
    have key : m.next q &&& tk &&& S = 0#64 ↔ ¬ ∃ i, (m.next q).getLsbD i = true ∧ tk.getLsbD i = true ∧ S.getLsbD i = true := by
      rw [and_none]
      simp only [bit_and, Bool.and_eq_true, and_assoc]
    rw [intoQ]
    by_cases hz : m.next q &&& tk &&& S = 0#64
    · rw [if_pos hz, ih]
      constructor
      · rintro ⟨h1, h2⟩; exact ⟨by omega, h2⟩
      · rintro ⟨h1, h2⟩
        by_cases hb : b = q
        · subst hb; exact absurd h2 (key.1 hz)
        · exact ⟨by omega, h2⟩
    · rw [if_neg hz, bit_or, Bool.or_eq_true, ih, one_bit (by omega)]
      constructor
      · rintro (⟨h1, h2⟩ | h1)
        · exact ⟨by omega, h2⟩
        · subst h1
          exact ⟨by omega, Classical.byContradiction fun hc => hz (key.2 hc)⟩
      · rintro ⟨h1, h2⟩
        by_cases hb : b = q
        · exact Or.inr hb
        · exact Or.inl ⟨by omega, h2⟩

section
variable {m : MP} {free S X : B64}
theorem step_dual (hz : HiZ m) : Meet (S ||| (followP m S &&& free)) X ↔ Meet S (X ||| intoP m free X) := by
  unfold Meet intoP
  constructor
  · rintro ⟨b, h1, h2⟩
    rw [bit_or, bit_and, Bool.or_eq_true, Bool.and_eq_true] at h1
    rcases h1 with h1 | ⟨h1, h3⟩
    · exact ⟨b, h1, by rw [bit_or, h2]; rfl⟩
    · unfold followP at h1
      obtain ⟨s, h4, h5, h6⟩ := (follow_bit m S 61 b).1 h1
      exact ⟨s, h5, by rw [bit_or, Bool.or_eq_true]; exact Or.inr ((into_bit m free X 63 (by omega) s).2 ⟨by omega, b, h6, h3, h2⟩)⟩
  · rintro ⟨s, h1, h2⟩
    rw [bit_or, Bool.or_eq_true] at h2
    rcases h2 with h2 | h2
    · exact ⟨s, by rw [bit_or, h1]; rfl, h2⟩
    · obtain ⟨h3, i, h4, h5, h6⟩ := (into_bit m free X 63 (by omega) s).1 h2
      have hs : s < 61 := by
        apply Classical.byContradiction
        intro hc
        rw [hz s (by omega)] at h4
        simp at h4
      refine ⟨i, ?_, h6⟩
      rw [bit_or, bit_and, Bool.or_eq_true, Bool.and_eq_true]
      exact Or.inr ⟨(follow_bit m S 61 i).2 ⟨s, hs, h1, h4⟩, h5⟩
theorem enough_shift : ∀ k, enoughQ m free (X ||| intoP m free X) k = enoughQ m free X (k + 1)
  | 0 => rfl
  | k + 1 => by
    show enoughQ m free (X ||| intoP m free X) k ||| intoP m free (enoughQ m free (X ||| intoP m free X) k) = _
    rw [enough_shift k]
    rfl
theorem still_dual (hz : HiZ m) : ∀ (k : Nat) (X : B64), Meet (stillQ m free S k) X ↔ Meet S (enoughQ m free X k)
  | 0, X => Iff.rfl
  | k + 1, X => by
    show Meet (stillQ m free S k ||| (followP m (stillQ m free S k) &&& free)) X ↔ _
    rw [step_dual hz, still_dual hz k, enough_shift]
theorem accept_iff (hz : HiZ m) (e : Bool) : acceptsP m S e = true ↔ Meet S (enoughP m (freeP m e)) := by
  unfold acceptsP
  rw [meet_iff]
  exact still_dual hz 60 _
theorem enough_up {free' : B64} (h : ∀ b, free.getLsbD b = true → free'.getLsbD b = true) : ∀ q b, (enoughQ m free X q).getLsbD b = true → (enoughQ m free' X q).getLsbD b = true
  | 0, b, hb => hb
  | q + 1, b, hb => by
    rw [enoughQ, bit_or, Bool.or_eq_true] at hb ⊢
    rcases hb with hb | hb
    · exact Or.inl (enough_up h q b hb)
    · unfold intoP at hb ⊢
      obtain ⟨h1, i, h2, h3, h4⟩ := (into_bit _ _ _ 63 (by omega) b).1 hb
      exact Or.inr ((into_bit _ _ _ 63 (by omega) b).2 ⟨h1, i, h2, h _ h3, enough_up h q i h4⟩)
theorem enough_no (hz : HiZ m) (hX : X.getLsbD 62 = false) : ∀ q, (enoughQ m free X q).getLsbD 62 = false
  | 0 => hX
  | q + 1 => by
    rw [enoughQ, bit_or, enough_no hz hX q, Bool.false_or]
    cases h : (intoP m free (enoughQ m free X q)).getLsbD 62 with
    | false => rfl
    | true =>
      unfold intoP at h
      obtain ⟨_, i, h2, _⟩ := (into_bit _ _ _ 63 (by omega) 62).1 h
      rw [hz 62 (by omega)] at h2
      simp at h2
theorem beg_eq (hz : HiZ m) : ∀ q, begQ m q = stillQ m m.begins startB q ||| freshB
  | 0 => rfl
  | q + 1 => by
    have e : followQ m (begQ m q) 63 = followP m (stillQ m m.begins startB q) := follow_more hz fun b hb => by
      rw [beg_eq hz q, bit_or, Bool.or_eq_true, fresh_bit]
      constructor
      · rintro (h | h)
        · exact h
        · omega
      · exact Or.inl
    show begQ m q ||| (followQ m (begQ m q) 63 &&& m.begins) = (stillQ m m.begins startB q ||| (followP m (stillQ m m.begins startB q) &&& m.begins)) ||| freshB
    rw [e, beg_eq hz q, BitVec.or_assoc, BitVec.or_assoc, BitVec.or_comm freshB]
end

section
variable {m : MP} {ns : List AN} {P : GP} {fold whole : Bool} {t : ByteArray}
theorem any_next {s b : Nat} (hs : s < 63) : ((anyP (begM m)).next s).getLsbD b = true ↔ (m.next s).getLsbD b = true ∨ (s = 60 ∧ b = 60) ∨ (b = 61 ∧ (m.last.getLsbD s = true ∨ s = 61)) := by
  have e : (anyP (begM m)).next s = if s < 63 ∧ (m.last.getLsbD s = true ∨ s = 61) then (if s = 60 then m.next s ||| startB else m.next s) ||| foundB else if s = 60 then m.next s ||| startB else m.next s := rfl
  have e1 : (if s = 60 then m.next s ||| startB else m.next s).getLsbD b = true ↔ (m.next s).getLsbD b = true ∨ (s = 60 ∧ b = 60) := by
    by_cases h : s = 60
    · rw [if_pos h, bit_or, Bool.or_eq_true, start_bit]; simp [h]
    · rw [if_neg h]; simp [h]
  rw [e]
  by_cases h : m.last.getLsbD s = true ∨ s = 61
  · rw [if_pos ⟨hs, h⟩, bit_or, Bool.or_eq_true, e1, found_bit, or_assoc]
    simp only [h, and_true]
  · rw [if_neg (fun hc => h hc.2), e1]
    simp only [h, and_false, or_false]
theorem any_takes {c b : Nat} (hc : c < 256) : ((anyP (begM m)).takes c).getLsbD b = true ↔ (m.takes c).getLsbD b = true ∨ b = 60 ∨ b = 61 := by
  have e : (anyP (begM m)).takes c = if c < 256 then m.takes c ||| (startB ||| foundB) else m.takes c := rfl
  rw [e, if_pos hc, bit_or, bit_or, Bool.or_eq_true, Bool.or_eq_true, start_bit, found_bit]

theorem last_no62 (hm : MF m ns P fold whole) : m.last.getLsbD 62 = false := by
  cases h : m.last.getLsbD 62 with
  | false => rfl
  | true =>
    have hr := hm.fit.room
    rcases (hm.last 62).1 h with h | h
    · have := hm.fit.last _ h; omega
    · omega

theorem start_in (hm : MF m ns P fold false) : ∀ q, q ≤ t.size → (setQ m t q).getLsbD 60 = true
  | 0, _ => (begin_facts (t := t) hm).2.1
  | q + 1, hq => by
    rw [setQ, dif_pos (by omega : q < t.size)]
    exact (behind_bit hm).2 (Or.inr (Or.inr (Or.inr rfl)))

theorem sub_all (hm : MF m ns P fold whole) (q : Nat) (hq : q ≤ t.size) : Sub P (setQ m t q) := by
  cases whole with
  | true => exact fun b h => ((invW (t := t) hm q hq).sub b h).elim Or.inl (fun h => Or.inr (Or.inl h))
  | false => exact (invA (t := t) hm q hq).sub

theorem set_same (hm : MF m ns P fold whole) (hz : HiZ m) : ∀ q, q ≤ t.size → ∀ b, (setN (finP m) t q).getLsbD b = true ↔ (setQ m t q).getLsbD b = true ∨ (b = 62 ∧ q = 0)
  | 0, _, b => by
    have e0 : setN (finP m) t 0 = begQ m 60 := by
      show (finP m).beg = _
      unfold finP
      split <;> rfl
    rw [e0]
    show (begQ m 60).getLsbD b = true ↔ (stillQ m m.begins startB 60).getLsbD b = true ∨ _
    rw [beg_eq hz, bit_or, Bool.or_eq_true, fresh_bit]
    simp
  | q + 1, hq, b => by
    have ih := set_same hm hz q (by omega)
    have hqt : q < t.size := by omega
    have hS := sub_all (t := t) hm q (by omega)
    have hroom := hm.fit.room
    have hc := t[q].toNat_lt
    rw [setN, setQ, dif_pos hqt]
    simp only [Nat.add_eq_zero_iff, Nat.one_ne_zero, and_false, or_false]
    cases whole with
    | true =>
      have e1 : finP m = begM m := by unfold finP; rw [if_pos hm.whole]
      have e2 : followQ m (setN (finP m) t q) 63 = followP m (setQ m t q) := follow_more hz fun b hb => by
        rw [ih b]
        constructor
        · rintro (h | h)
          · exact h
          · omega
        · exact Or.inl
      rw [show fromP (finP m) ((finP m).takes t[q].toNat) (setN (finP m) t q) = fromP m (m.takes t[q].toNat) (setN (finP m) t q) by rw [fromP_next (m := m) (by rw [e1]; rfl), e1]; rfl]
      unfold fromP behindP
      rw [e2, if_pos hm.whole]
      exact Iff.rfl
    | false =>
      have e1 : finP m = anyP (begM m) := by unfold finP; rw [if_neg (by rw [hm.whole]; decide)]
      have e2 : (finP m).takes t[q].toNat = (anyP (begM m)).takes t[q].toNat := by rw [e1]
      have e3 : ∀ s, (finP m).next s = (anyP (begM m)).next s := fun s => by rw [e1]
      rw [behind_bit hm]
      unfold fromP
      rw [bit_and, Bool.and_eq_true, follow_bit, e2, any_takes hc]
      simp only [e3]
      have hno := last_no62 hm
      constructor
      · rintro ⟨⟨s, h1, h2, h3⟩, h4⟩
        rw [any_next h1] at h3
        have hs : (setQ m t q).getLsbD s = true := by
          rcases (ih s).1 h2 with h | ⟨h, _⟩
          · exact h
          · subst h
            exfalso
            rcases h3 with h3 | h3 | h3
            · rw [hz 62 (by omega)] at h3; simp at h3
            · omega
            · rcases h3.2 with h | h
              · rw [hno] at h; exact absurd h (by decide)
              · omega
        rcases h3 with h3 | h3 | ⟨h5, h3 | h3⟩
        · have hs61 : s < 61 := by
            apply Classical.byContradiction
            intro hc
            rw [hz s (by omega)] at h3
            simp at h3
          have hf : (followP m (setQ m t q)).getLsbD b = true := (follow_bit m _ 61 b).2 ⟨s, hs61, hs, h3⟩
          obtain ⟨s', _, hn⟩ := (follow_nx hm hS).1 hf
          have hb := hn.lt hm.fit
          rcases h4 with h4 | h4 | h4
          · refine Or.inl ?_
            unfold afterP
            rw [bit_and, hf, h4]; rfl
          · omega
          · omega
        · exact Or.inr (Or.inr (Or.inr h3.2))
        · exact Or.inr (Or.inl ⟨h5, s, hs, h3⟩)
        · subst h3; exact Or.inr (Or.inr (Or.inl ⟨h5, hs⟩))
      · rintro (h | ⟨h1, s, h2, h3⟩ | ⟨h1, h2⟩ | h)
        · unfold afterP at h
          rw [bit_and, Bool.and_eq_true] at h
          obtain ⟨s, h1, h2, h3⟩ := (follow_bit m _ 61 b).1 h.1
          exact ⟨⟨s, by omega, (ih s).2 (Or.inl h2), (any_next (by omega)).2 (Or.inl h3)⟩, Or.inl h.2⟩
        · have hs : s < 63 := by
            rcases hS s h2 with h | h | h <;> omega
          exact ⟨⟨s, hs, (ih s).2 (Or.inl h2), (any_next hs).2 (Or.inr (Or.inr ⟨h1, Or.inl h3⟩))⟩, Or.inr (Or.inr h1)⟩
        · exact ⟨⟨61, by omega, (ih 61).2 (Or.inl h2), (any_next (by omega)).2 (Or.inr (Or.inr ⟨h1, Or.inr rfl⟩))⟩, Or.inr (Or.inr h1)⟩
        · subst h
          exact ⟨⟨60, by omega, (ih 60).2 (Or.inl (start_in hm q (by omega))), (any_next (by omega)).2 (Or.inr (Or.inl ⟨rfl, rfl⟩))⟩, Or.inr (Or.inl rfl)⟩

theorem en_bit {b : Nat} : (enP m).getLsbD b = true ↔ (enoughP m m.ends).getLsbD b = true ∨ (b = 62 ∧ Meet (begP m) (enoughP m (m.ends ||| m.begins))) := by
  unfold enP
  by_cases h : begP m &&& enoughP m (m.ends ||| m.begins) = 0#64
  · rw [if_pos h]
    simp only [meet_not.1 h, and_false, or_false]
  · rw [if_neg h, bit_or, Bool.or_eq_true, fresh_bit]
    have : Meet (begP m) (enoughP m (m.ends ||| m.begins)) := Classical.byContradiction fun hc => h (meet_not.2 hc)
    simp only [this, and_true]

theorem found_no62 (hm : MF m ns P fold whole) : (m.last ||| foundB).getLsbD 62 = false := by
  rw [bit_or, last_no62 hm]
  decide

/-- The code's machine is the simple one. -/
theorem matches_same (hm : MF m ns P fold whole) (hz : HiZ m) : matchesN (finP m) t = matchesP m t := by
  rw [Bool.eq_iff_iff]
  have e0 : (finP m).en = enP m := by unfold finP; split <;> rfl
  unfold matchesN matchesP
  rw [meet_iff, accept_iff hz, e0]
  have hS := sub_all (t := t) hm t.size (Nat.le_refl _)
  have hroom := hm.fit.room
  have hset := set_same (t := t) hm hz t.size (Nat.le_refl _)
  have no62 : ∀ free, (enoughP m free).getLsbD 62 = false := fun free => enough_no hz (found_no62 hm) 60
  by_cases hn : t.size = 0
  · have e : (t.size == 0) = true := by rw [hn]; rfl
    have ef : freeP m true = m.ends ||| m.begins := rfl
    rw [e, ef]
    have hb : ∀ b, (begP m).getLsbD b = true ↔ (setQ m t t.size).getLsbD b = true ∨ b = 62 := fun b => by
      have := hset b
      rw [hn] at this ⊢
      have hbeg : setN (finP m) t 0 = begP m := by
        show (finP m).beg = _
        unfold finP
        split <;> rfl
      rw [hbeg] at this
      rw [this]
      simp
    have key : Meet (begP m) (enoughP m (m.ends ||| m.begins)) ↔ Meet (setQ m t t.size) (enoughP m (m.ends ||| m.begins)) := by
      constructor
      · rintro ⟨s, h1, h2⟩
        rcases (hb s).1 h1 with h | h
        · exact ⟨s, h, h2⟩
        · subst h; rw [no62] at h2; exact absurd h2 (by decide)
      · rintro ⟨s, h1, h2⟩; exact ⟨s, (hb s).2 (Or.inl h1), h2⟩
    constructor
    · rintro ⟨s, h1, h2⟩
      rcases en_bit.1 h2 with h | h
      · rcases (hset s).1 h1 with h3 | h3
        · exact ⟨s, h3, enough_up (fun b h => by rw [bit_or, h]; rfl) 60 s h⟩
        · rw [h3.1, no62] at h; exact absurd h (by decide)
      · exact key.1 h.2
    · intro h
      exact ⟨62, (hset 62).2 (Or.inr ⟨rfl, hn⟩), en_bit.2 (Or.inr ⟨rfl, key.2 h⟩)⟩
  · have e : (t.size == 0) = false := by simp [hn]
    have ef : freeP m false = m.ends := rfl
    rw [e, ef]
    constructor
    · rintro ⟨s, h1, h2⟩
      have h3 : (setQ m t t.size).getLsbD s = true := by
        rcases (hset s).1 h1 with h | h
        · exact h
        · exact absurd h.2 hn
      rcases en_bit.1 h2 with h | h
      · exact ⟨s, h3, h⟩
      · rcases hS s h3 with h4 | h4 | h4 <;> omega
    · rintro ⟨s, h1, h2⟩
      exact ⟨s, (hset s).2 (Or.inl h1), en_bit.2 (Or.inl h2)⟩

theorem built_hi (ns : List AN) (P : GP) (fold whole : Bool) : ∀ q, q ≤ 60 → HiZ (buildQ ns P fold whole q)
  | 0, _, s, hs => by
    show (if s = 60 then P.first else 0#64) = 0#64
    rw [if_neg (by omega)]
  | q + 1, hq, s, hs => by
    have ih := built_hi ns P fold whole q (by omega) s hs
    have e : (nextM (buildQ ns P fold whole q) q (P.next q)).next s = 0#64 := by
      show (if s = q then P.next q else (buildQ ns P fold whole q).next s) = 0#64
      rw [if_neg (by omega)]; exact ih
    rw [buildQ]
    cases ns[P.node q]? with
    | none => exact e
    | some n =>
      show (learnP _ _ n fold).next s = 0#64
      unfold learnP learnQ
      repeat' split
      all_goals exact e
end

end Go.Proofs.Ytgifhgnccmnbiaa

set_option linter.unusedVariables false
set_option linter.unusedSimpArgs false
namespace Go.Proofs.Ytgifhgnccmnbiaa
open Go.RowKit Go.IntWalk

/-- The text is refused as a pattern, with this error. -/
def PatE (t : ByteArray) (e : Int) : Prop :=
  (40 < t.size ∧ e = 3) ∨ (t.size ≤ 40 ∧ ∃ r : Nat × PS, Ev t 0 0 st0 r ∧ ((BadR t r ∧ e = 2) ∨ (¬ BadR t r ∧ 60 < sizeAt r.2.2 r.1 ∧ e = 3)))
/-- The text is a pattern, and this is what was read. -/
structure PatOk (t : ByteArray) (r : Nat × PS) : Prop where
  small : t.size ≤ 40
  ev : Ev t 0 0 st0 r
  good : ¬ BadR t r
  size : sizeAt r.2.2 r.1 ≤ 60
theorem pat_cases (t : ByteArray) : (∃ e, PatE t e) ∨ ∃ r, PatOk t r := by
  by_cases h : 40 < t.size
  · exact Or.inl ⟨3, Or.inl ⟨h, rfl⟩⟩
  · obtain ⟨r, d, _⟩ := (below_all (t := t) (t.size + 1) st0 (Nat.zero_le _) (by omega)).1 0
    have ev : Ev t 0 0 st0 r := d.ev
    by_cases hb : BadR t r
    · exact Or.inl ⟨2, Or.inr ⟨by omega, r, ev, Or.inl ⟨hb, rfl⟩⟩⟩
    · by_cases hs : 60 < sizeAt r.2.2 r.1
      · exact Or.inl ⟨3, Or.inr ⟨by omega, r, ev, Or.inr ⟨hb, hs, rfl⟩⟩⟩
      · exact Or.inr ⟨r, by omega, ev, hb, by omega⟩
theorem PatE.ne {t : ByteArray} {e : Int} (h : PatE t e) : e = 2 ∨ e = 3 := by
  rcases h with ⟨_, rfl⟩ | ⟨_, r, _, ⟨_, rfl⟩ | ⟨_, _, rfl⟩⟩
  · exact Or.inr rfl
  · exact Or.inl rfl
  · exact Or.inr rfl
theorem PatE.one {t : ByteArray} {e e' : Int} (h : PatE t e) (h' : PatE t e') : e = e' := by
  rcases h with ⟨a, rfl⟩ | ⟨a, r, ev, hc⟩ <;> rcases h' with ⟨b, rfl⟩ | ⟨b, r', ev', hc'⟩
  · rfl
  · omega
  · omega
  · have := ev.one ev'
    subst this
    rcases hc with ⟨h1, rfl⟩ | ⟨h1, h2, rfl⟩ <;> rcases hc' with ⟨h3, rfl⟩ | ⟨h3, h4, rfl⟩
    · rfl
    · exact absurd h1 h3
    · exact absurd h3 h1
    · rfl
theorem PatOk.not {t : ByteArray} {e : Int} {r : Nat × PS} (h : PatOk t r) (h' : PatE t e) : False := by
  have := h.small
  rcases h' with ⟨b, rfl⟩ | ⟨b, r', ev', hc'⟩
  · omega
  · have := h.ev.one ev'
    subst this
    rcases hc' with ⟨h3, _⟩ | ⟨h3, h4, _⟩
    · exact h.good h3
    · have := h.size; omega
theorem PatOk.okay {t : ByteArray} {r : Nat × PS} (h : PatOk t r) : Okay t r := okay_of h.small h.ev h.size

/-- Selected: the whole line; somewhere in it. -/
def selB (r : Nat × PS) (fold whole : Bool) (l : ByteArray) : Bool := matchesP (buildP r.2.2 (lastQ r.2.2 r.2.2.length) fold whole) l
theorem root_part {t : ByteArray} {r : Nat × PS} (h : PatOk t r) : lastQ r.2.2 r.2.2.length = partN r.2.2 r.1 ∧ PartOfN r.2.2 r.1 := by
  have o := h.okay
  have htop := o.top
  exact ⟨by rw [← o.top]; rfl, part_all o.ok o.all o.len (r.1 + 1) r.1 (by omega) (by omega)⟩
theorem all_same : allSame := fun t r ht ev hb hs fold whole l => by
  obtain ⟨e, p⟩ := root_part ⟨ht, ev, hb, hs⟩
  rw [e]
  exact matches_same (mf_of r.2.2 _ p.fit fold whole) (built_hi r.2.2 _ fold whole _ p.fit.room)
theorem sel_whole {t : ByteArray} {r : Nat × PS} (h : PatOk t r) (fold : Bool) (l : ByteArray) : selB r fold true l = true ↔ Mat r.2.2 fold l r.1 0 l.size := by
  obtain ⟨e, p⟩ := root_part h
  unfold selB
  rw [e, whole_iff (mf_of r.2.2 _ p.fit fold true)]
  constructor
  · rintro ⟨u, h1, h2⟩
    exact ⟨_, (p.lang _).1 ⟨u, (runX_acc p.fit).1 h1, rfl⟩, h2⟩
  · rintro ⟨u, h1, h2⟩
    obtain ⟨v, h3, rfl⟩ := (p.lang _).2 h1
    exact ⟨v, (runX_acc p.fit).2 h3, h2⟩
theorem sel_any {t : ByteArray} {r : Nat × PS} (h : PatOk t r) (fold : Bool) (l : ByteArray) : selB r fold false l = true ↔ ∃ i j, Mat r.2.2 fold l r.1 i j := by
  obtain ⟨e, p⟩ := root_part h
  unfold selB
  rw [e, any_iff (mf_of r.2.2 _ p.fit fold false)]
  constructor
  · rintro ⟨i, j, u, h1, h2⟩
    exact ⟨i, j, _, (p.lang _).1 ⟨u, (runX_acc p.fit).1 h1, rfl⟩, h2⟩
  · rintro ⟨i, j, u, h1, h2⟩
    obtain ⟨v, h3, rfl⟩ := (p.lang _).2 h1
    exact ⟨i, j, v, (runX_acc p.fit).2 h3, h2⟩

theorem match_bad {t : ByteArray} {x : Int} (h : PatE t x) (inv fold whole num : Bool) (l : ByteArray) (w : World) (ht : t.size ≤ maxLen) (hl : l.size ≤ maxLen) :
    Calls Try.prog 18 #[.agg #[.bool inv, .bool fold, .bool whole, .bool num, .int .i64 0], .string t, .string l] w fun e w' => e = .returned (.tuple #[.bool false, .int .i64 x]) ∧ Below w.heap.size w w' := by
  refine (match_any all_ready all_same inv fold whole num 0 t l w (by omega) (by omega) ht hl).mono ?_
  rintro e w' ⟨h1, h2⟩
  refine ⟨?_, h2⟩
  rcases h1 with ⟨h3, _⟩ | ⟨_, h3, rfl⟩ | ⟨_, h3, r, ev, hidx, hc⟩
  · omega
  · rw [h.one (Or.inl ⟨h3, rfl⟩)]
  · rcases hc with ⟨h4, rfl⟩ | ⟨h4, h5, rfl⟩ | ⟨h4, h5, _⟩ | ⟨h4, h5, _⟩
    · rw [h.one (Or.inr ⟨h3, r, ev, Or.inl ⟨h4, rfl⟩⟩)]
    · rw [h.one (Or.inr ⟨h3, r, ev, Or.inr ⟨h4, h5, rfl⟩⟩)]
    · exact absurd h (fun hE => PatOk.not ⟨h3, ev, h4, h5⟩ hE)
    · exact absurd h (fun hE => PatOk.not ⟨h3, ev, h4, h5⟩ hE)
theorem match_ok {t : ByteArray} {r : Nat × PS} (h : PatOk t r) (inv fold whole num : Bool) (l : ByteArray) (w : World) (hl : IsLine l) :
    Calls Try.prog 18 #[.agg #[.bool inv, .bool fold, .bool whole, .bool num, .int .i64 0], .string t, .string l] w fun e w' => e = .returned (.tuple #[.bool (selB r fold whole l != inv), .int .i64 0]) ∧ Below w.heap.size w w' := by
  have hs := h.small
  have hls := hl.1
  refine (match_any all_ready all_same inv fold whole num 0 t l w (by omega) (by omega) (by unfold maxLen; omega) (by unfold maxLen; omega)).mono ?_
  rintro e w' ⟨h1, h2⟩
  refine ⟨?_, h2⟩
  rcases h1 with ⟨h3, _⟩ | ⟨_, h3, rfl⟩ | ⟨_, h3, r', ev, hidx, hc⟩
  · omega
  · omega
  · have he := h.ev.one ev
    subst he
    rcases hc with ⟨h4, rfl⟩ | ⟨h4, h5, rfl⟩ | ⟨h4, h5, h6, _⟩ | ⟨h4, h5, h6, rfl⟩
    · exact absurd h4 h.good
    · have := h.size; omega
    · exact absurd hl h6
    · rfl
theorem check_bad {t : ByteArray} {x : Int} (h : PatE t x) (w : World) (ht : t.size ≤ maxLen) :
    Calls Try.prog 15 #[.string t] w fun e w' => e = .returned (.tuple #[.int .i64 0, .int .i64 x]) ∧ Below w.heap.size w w' := by
  by_cases hlen : 40 < t.size
  · rw [h.one (Or.inl ⟨hlen, rfl⟩)]
    exact check_long t w hlen ht
  · refine (check_any t w (by omega)).mono ?_
    rintro e w' ⟨h1, r, ev, hidx, hc⟩
    refine ⟨?_, h1⟩
    rcases hc with ⟨h4, rfl⟩ | ⟨h4, h5, rfl⟩ | ⟨h4, h5, _⟩
    · rw [h.one (Or.inr ⟨by omega, r, ev, Or.inl ⟨h4, rfl⟩⟩)]
    · rw [h.one (Or.inr ⟨by omega, r, ev, Or.inr ⟨h4, h5, rfl⟩⟩)]
    · exact absurd h (fun hE => PatOk.not ⟨by omega, ev, h4, h5⟩ hE)
theorem check_ok {t : ByteArray} {r : Nat × PS} (h : PatOk t r) (w : World) :
    Calls Try.prog 15 #[.string t] w fun e w' => e = .returned (.tuple #[.int .i64 (sizeAt r.2.2 r.1), .int .i64 0]) ∧ Below w.heap.size w w' := by
  refine (check_any t w h.small).mono ?_
  rintro e w' ⟨h1, r', ev, hidx, hc⟩
  refine ⟨?_, h1⟩
  have he := h.ev.one ev
  subst he
  rcases hc with ⟨h4, rfl⟩ | ⟨h4, h5, rfl⟩ | ⟨h4, h5, rfl⟩
  · exact absurd h4 h.good
  · have := h.size; omega
  · rfl

/- THE PATTERN a. -/
def aText : ByteArray := ⟨#[97]⟩
def aRes : Nat × PS := (0, ((1, false), [{ kind := 1, its := [(97, 97)], size := 1 }]))
theorem a_ok : PatOk aText aRes := by
  refine ⟨by decide, ?_, ?_, by decide⟩
  · have d : D aText 0 0 st0 aRes := by
      have e1 : (nextS aText st0.1).1 = 97 := by decide
      have e2 : plainS aText (nextS aText st0.1).1 ((nextS aText st0.1).2, st0.2) = aRes := rfl
      have d3 : D aText 3 0 st0 aRes := by rw [← e2]; exact D.plain (by rw [e1]; decide) (by rw [e1]; decide)
      have d6 : D aText 6 aRes.1 aRes.2 (aRes.1, aRes.2) := D.repEnd (by decide)
      have d5 : D aText 5 aRes.1 aRes.2 (aRes.1, aRes.2) := D.andEnd (by decide)
      have d4 : D aText 4 aRes.1 aRes.2 (aRes.1, aRes.2) := D.orEnd (by decide)
      exact D.pattern (D.branch (by decide) (D.piece d3 d6) d5) d4
    exact d.ev
  · rintro (h | h)
    · exact absurd h (by decide)
    · exact absurd h (by decide)
theorem a_line : IsLine aText := ⟨by decide, fun i hi h => by
  have : i = 0 := by have : aText.size = 1 := rfl; omega
  subst this
  have : aText[0].toNat = 97 := rfl
  omega⟩
theorem a_sel : selB aRes false false aText = true := by
  rw [sel_any a_ok]
  refine ⟨0, 1, [0], W.step (n := { kind := 1, its := [(97, 97)], size := 1 }) rfl (Or.inl rfl), 1, ⟨_, rfl, Or.inl ⟨rfl, rfl, by decide, by decide⟩⟩, rfl, by decide⟩

set_option maxHeartbeats 1000000 in
theorem matching_any (w : World) : Calls Try.prog 20 #[] w fun e w' => e = .returned (.bool true) ∧ Below w.heap.size w w' := by
  have hc : Hid (∀ w, Calls _ _ _ w _) := fun w => check_ok a_ok w
  have hm : Hid (∀ w, Calls _ _ _ w _) := fun w => match_ok a_ok false false false false aText w a_line
  rw [a_sel] at hm
  have e1 : sizeAt aRes.2.2 aRes.1 = 1 := by decide
  rw [e1] at hc
  unfold aText at hc hm
  clear e1
  go_enter Try.func20, Try.ntmps20
  go_wp2_with (first
    | (go_at_call 15; refine (hc.out _).mono ?_; rintro e w1 ⟨rfl, b1⟩)
    | (go_at_call 18; refine (hm.out _).mono ?_; rintro e w2 ⟨rfl, b2⟩))
  go_ret
  exact ⟨rfl, b1.trans (b2.mono b1.size)⟩

set_option maxHeartbeats 1000000 in
theorem whole_ok {p : ByteArray} {r : Nat × PS} (h : PatOk p r) (fold : Bool) (s : ByteArray) (hs : IsLine s) (w : World) :
    Calls Try.prog 24 #[.string p, .bool fold, .string s] w fun e w' => e = .returned (.bool (selB r fold true s)) ∧ Below w.heap.size w w' := by
  have hm : Hid (∀ w, Calls _ _ _ w _) := fun w => match_ok h false fold true false s w hs
  have hb : ∀ b : Bool, (b != false) = b := fun b => by cases b <;> rfl
  rw [hb] at hm
  clear hb h
  generalize selB r fold true s = Y at *
  cases Y <;>
  · go_enter Try.func24, Try.ntmps24
    go_wp2_with (go_at_call 18; refine (hm.out _).mono ?_; rintro e w1 ⟨rfl, b1⟩)
    go_ret
    exact ⟨rfl, b1⟩

/-- A ^ or a $ stands in it. -/
def Anch (p : ByteArray) (q : Nat) : Prop := ∃ i, i < q ∧ ∃ h : i < p.size, p[i].toNat = 94 ∨ p[i].toNat = 36
noncomputable def anchB (p : ByteArray) : Bool := @decide (Anch p p.size) (Classical.propDecidable _)
theorem anchB_true {p : ByteArray} (h : Anch p p.size) : anchB p = true := by unfold anchB; exact @decide_eq_true _ (Classical.propDecidable _) h
theorem anchB_false {p : ByteArray} (h : ¬ Anch p p.size) : anchB p = false := by unfold anchB; exact @decide_eq_false _ (Classical.propDecidable _) h

set_option maxHeartbeats 1000000 in
theorem anchored_any (p : ByteArray) (hp : p.size ≤ maxLen) (w : World) :
    Calls Try.prog 23 #[.string p] w fun e w' => e = .returned (.bool (anchB p)) ∧ w' = w := by
  unfold maxLen at hp
  go_enter Try.func23, Try.ntmps23
  go_wp2
  go_loop [3] (fun iv => ∃ q : Nat, iv = .int .i64 (q : Int) ∧ q ≤ p.size ∧ ¬ Anch p q) (fun iv => ((p.size : Int) - intOf iv).toNat)
  case atStart => exact ⟨0, rfl, by omega, fun ⟨i, hi, _⟩ => by omega⟩
  case round =>
    obtain ⟨q, rfl, hq, hno⟩ := hrel
    have hnoH : Hid (¬ Anch p q) := hno
    clear hno
    by_cases hlt : (q : Int) < (p.size : Int)
    · have hqn : q < p.size := by omega
      have hyes : Hid (((p[q].toNat : Int) = 94 ∨ (p[q].toNat : Int) = 36) → Anch p p.size) := fun h => ⟨q, hqn, hqn, by omega⟩
      have hnext : Hid ((p[q].toNat : Int) ≠ 94 → (p[q].toNat : Int) ≠ 36 → ¬ Anch p (q + 1)) := fun h1 h2 ⟨i, hi, h, hc⟩ => by
        by_cases hiq : i = q
        · subst hiq; omega
        · exact hnoH.out ⟨i, by omega, h, hc⟩
      by_cases h1 : (p[q].toNat : Int) = 94
      · have hY : Hid _ := hyes.out (Or.inl h1)
        clear hyes hnext
        go_wp2
        go_ret
        exact ⟨by rw [anchB_true hY.out]; rfl, rfl⟩
      · by_cases h2 : (p[q].toNat : Int) = 36
        · have hY : Hid _ := hyes.out (Or.inr h2)
          clear hyes hnext
          go_wp2
          go_ret
          exact ⟨by rw [anchB_true hY.out]; rfl, rfl⟩
        · have hN : Hid _ := hnext.out h1 h2
          have n1 : (p[q].toNat : Int) ≠ 94 := h1
          have n2 : (p[q].toNat : Int) ≠ 36 := h2
          have e1 : ((p[q].toNat : Int) == 94) = false := beq_eq_false_iff_ne.2 h1
          have e2 : ((p[q].toNat : Int) == 36) = false := beq_eq_false_iff_ne.2 h2
          clear hyes hnext h1 h2
          go_wp2
          refine ⟨⟨q + 1, by go_num, by omega, hN.out⟩, ?_⟩
          simp only [intOf]; omega
    · have hqe : q = p.size := by omega
      have hN : Hid (¬ Anch p p.size) := by have := hnoH.out; rw [hqe] at this; exact this
      clear hqe
      go_wp2
      go_ret
      exact ⟨by rw [anchB_false hN.out]; rfl, rfl⟩

set_option maxHeartbeats 1000000 in
theorem some_any (p : ByteArray) (n : Nat) (hn : n ≤ 1000) (hp : p.size ≤ maxLen) (w : World) :
    Calls Try.prog 37 #[.string p, .int .i64 (n : Int)] w fun e w' => e = .returned (.string (if n < p.size then p.extract 0 n else p)) ∧ w' = w := by
  unfold maxLen at hp
  by_cases h : (n : Int) < (p.size : Int)
  · rw [if_pos (by omega)]
    go_enter Try.func37, Try.ntmps37
    go_wp2
    go_ret
    exact ⟨rfl, rfl⟩
  · rw [if_neg (by omega)]
    go_enter Try.func37, Try.ntmps37
    go_wp2
    go_ret
    exact ⟨rfl, rfl⟩

end Go.Proofs.Ytgifhgnccmnbiaa

set_option linter.unusedVariables false
set_option linter.unusedSimpArgs false
namespace Go.Proofs.Ytgifhgnccmnbiaa
open Go.RowKit Go.IntWalk

def NoNl (s : ByteArray) : Prop := noNl s s.size
theorem infoString : (Try.prog.info? 9).map (fun i => (i.zero, i.size, i.bytes)) = some (some (.string ByteArray.empty), 1, 16) := by kernel_rfl
theorem noNl_empty : NoNl ByteArray.empty := fun i hi h => by have : ByteArray.empty.size = 0 := rfl; omega
theorem noNl_more {s t : ByteArray} {q : Nat} (hs : NoNl s) (hq : q < t.size) (hc : t[q].toNat ≠ 10) : NoNl (s ++ t.extract q (q + 1)) := fun i hi h => by
  by_cases h1 : i < s.size
  · rw [ByteArray.getElem_append_left h1]; exact hs i h1 h1
  · rw [ByteArray.getElem_append_right (by omega), ByteArray.getElem_extract]
    have : i - s.size = 0 := by
      rw [ByteArray.size_append, ByteArray.size_extract] at h
      omega
    simp only [this, Nat.add_zero]
    exact hc
theorem size_more {s t : ByteArray} {q : Nat} (hq : q < t.size) : (s ++ t.extract q (q + 1)).size = s.size + 1 := by
  rw [ByteArray.size_append, ByteArray.size_extract]; omega

/-- Lines: none has a newline, none is longer than so many bytes. -/
def LinesOk (n : Nat) (ls : List ByteArray) : Prop := ∀ s, s ∈ ls → NoNl s ∧ s.size ≤ n
structure LsIn (w0 w : World) (v : Value) (n : Nat) (ls : List ByteArray) : Prop where
  own : w.ownsRow w0.heap.size 9 1 v ls.length (ls.map Value.string)
  ok : LinesOk n ls
  k : Kept [] w0 w

theorem LsIn.push {w0 w w' : World} {v v' : Value} {n : Nat} {ls : List ByteArray} {s : ByteArray} {o : Obj} (h : LsIn w0 w v n ls) (hs : NoNl s) (hn : s.size ≤ n)
    (hown : w'.ownsRow w0.heap.size 9 1 v' (ls.length + 1) (ls.map Value.string ++ [.string s])) (hgrow : (w.alloc o).grownBy w' v.ownBlock) : LsIn w0 w' v' n (ls ++ [s]) := by
  refine ⟨by rw [List.map_append, List.length_append]; exact hown, fun x hx => ?_, ?_⟩
  · rcases List.mem_append.1 hx with hx | hx
    · exact h.ok x hx
    · simp at hx; subst hx; exact ⟨hs, hn⟩
  · have bl : ∀ k, k < w.heap.size → v.ownBlock ≠ some k → w'.heap[k]? = w.heap[k]? := fun k hk hne => by
      rw [hgrow.block k (by simp; omega) (fun hc => hne hc.symm), Below.heap_alloc _ _ _ hk]
    have hs2 : w.heap.size ≤ w'.heap.size := by have := hgrow.size; simp at this; omega
    have hk := h.k
    exact ⟨hgrow.os.trans hk.os, hgrow.tape.trans hk.tape, hgrow.output.trans hk.output, Nat.le_trans hk.size hs2, fun i hi hn => by
      have := hk.size
      rw [bl i (by omega) (fun hc => by have := (h.own.lt i hc).1; omega)]; exact hk.block i hi hn⟩

set_option maxHeartbeats 2000000 in
set_option maxRecDepth 100000 in
theorem lines_any (t : ByteArray) (ht : t.size ≤ 1000) (w : World) :
    Calls Try.prog 47 #[.string t] w fun e w' => ∃ v, e = .returned v ∧ ∃ ls, LsIn w w' v t.size ls := by
  obtain ⟨i0, hi0, hz0, hz1, hz2⟩ := info_parts infoString
  go_enter Try.func47, Try.ntmps47
  go_wp2_with fail
  go_loopw [3, 4, 5] (fun lv av iv wr => ∃ (q : Nat) (v : Value) (s : ByteArray) (ls : List ByteArray), lv = v ∧ av = .string s ∧ iv = .int .i64 (q : Int) ∧ q ≤ t.size ∧ NoNl s ∧ s.size ≤ q ∧ ls.length ≤ q ∧ LsIn w wr v t.size ls) (fun _ _ iv _ => ((t.size : Int) - intOf iv).toNat)
  case atStart => exact ⟨0, _, ByteArray.empty, [], rfl, rfl, rfl, Nat.zero_le _, noNl_empty, Nat.zero_le _, Nat.zero_le _, ⟨World.ownsRow_nil _ _ _ _, fun s hs => by simp at hs, Kept.refl _ _⟩⟩
  case round =>
    obtain ⟨q, v, s, ls, hv, rfl, rfl, hq, hs, hsq, hlq, hI⟩ := hrel
    obtain rfl := hv.symm
    have hsz := hI.k.size
    by_cases hlt : (q : Int) < (t.size : Int)
    · have hqn : q < t.size := by omega
      by_cases hc : (t[q].toNat : Int) = 10
      · go_wp2_with (at_builtin; (refine wpList_append_placed rfl (.tmp 16) (.tmp 18) 74 rfl w.heap.size 9 i0 _ 1 16 Try.underlying74 hi0 hz0 hz1 hz2 rfl (by decide) v ls.length (ls.map Value.string) rfl ?own ⟨wr.heap.size, 0, none⟩ 1 1 [.string s] rfl rfl ?n1 ?n2 ?b1 ?b2 ?b3 ?kk))
        case own => exact hI.own.alloc _
        case n2 => first | (simp [Value.oneCell']; done) | exact cells_new _ _ _ _ rfl | (intro u hu; simp at hu; subst hu; rfl)
        case b1 => unfold maxLen; omega
        case b2 => omega
        case b3 => first | omega | (simp; omega)
        case kk =>
          intro v' w5 hown hgrow _
          have h5 : Hid (LsIn _ _ _ _ _) := hI.push hs (by omega) hown hgrow
          clear hown hgrow hI
          go_wp2
          refine ⟨⟨q + 1, v', ByteArray.empty, ls ++ [s], rfl, rfl, by go_num, by omega, noNl_empty, Nat.zero_le _, by simp; omega, h5.out⟩, ?_⟩
          simp only [intOf]; omega
      · have hn : Hid (NoNl (s ++ t.extract q (q + 1))) := noNl_more hs hqn (by omega)
        have hz : Hid ((s ++ t.extract q (q + 1)).size = s.size + 1) := size_more hqn
        have hIH : Hid (LsIn _ _ _ _ _) := hI
        have e1 : ((t[q].toNat : Int) == 10) = false := beq_eq_false_iff_ne.2 hc
        have n1 : (t[q].toNat : Int) ≠ 10 := hc
        clear hI hc
        go_wp2
        refine ⟨⟨q + 1, v, s ++ t.extract q (q + 1), ls, rfl, rfl, by go_num, by omega, hn.out, by rw [hz.out]; omega, by omega, hIH.out⟩, ?_⟩
        simp only [intOf]; omega
    · by_cases he : s.toList.isEmpty = true
      · have hIH : Hid (LsIn _ _ _ _ _) := hI
        clear hI hs
        go_wp2
        go_ret
        exact ⟨_, rfl, ls, hIH.out⟩
      · have he : s.toList.isEmpty = false := by simpa using he
        go_wp2_with (at_builtin; (refine wpList_append_placed rfl (.tmp 29) (.tmp 31) 74 rfl w.heap.size 9 i0 _ 1 16 Try.underlying74 hi0 hz0 hz1 hz2 rfl (by decide) v ls.length (ls.map Value.string) rfl ?own ⟨wr.heap.size, 0, none⟩ 1 1 [.string s] rfl rfl ?n1 ?n2 ?b1 ?b2 ?b3 ?kk))
        case own => exact hI.own.alloc _
        case n2 => first | (simp [Value.oneCell']; done) | exact cells_new _ _ _ _ rfl | (intro u hu; simp at hu; subst hu; rfl)
        case b1 => unfold maxLen; omega
        case b2 => omega
        case b3 => first | omega | (simp; omega)
        case kk =>
          intro v' w5 hown hgrow _
          have h5 : Hid (LsIn _ _ _ _ _) := hI.push hs (by omega) hown hgrow
          clear hown hgrow hI
          go_wp2
          go_ret
          exact ⟨_, rfl, _, h5.out⟩

end Go.Proofs.Ytgifhgnccmnbiaa
