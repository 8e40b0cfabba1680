/- Package sift: Check and Match, told by what the pattern is. -/
import Derived.Test.YtjhmkkhnnijigaaTrack2
set_option linter.unusedVariables false
set_option linter.unusedSimpArgs false
namespace Go.Proofs.Ytjhmkkhnnijigaa
open Go.RowKit Go.IntWalk

/-- The text is refused as a pattern, with this error. -/
def PatE (t : ByteArray) (e : Int) : Prop :=
  (40 < t.size ∧ e = 3) ∨ (t.size ≤ 40 ∧ ∃ r : Nat × PS, Ev t 0 0 st0 r ∧ ((BadR t r ∧ e = 2) ∨ (¬ BadR t r ∧ 60 < sizeAt r.2.2 r.1 ∧ e = 3)))
/-- The text is a pattern, and this is what was read. -/
structure PatOk (t : ByteArray) (r : Nat × PS) : Prop where
  small : t.size ≤ 40
  ev : Ev t 0 0 st0 r
  good : ¬ BadR t r
  size : sizeAt r.2.2 r.1 ≤ 60
theorem pat_cases (t : ByteArray) : (∃ e, PatE t e) ∨ ∃ r, PatOk t r := by
  by_cases h : 40 < t.size
  · exact Or.inl ⟨3, Or.inl ⟨h, rfl⟩⟩
  · obtain ⟨r, d, _⟩ := (below_all (t := t) (t.size + 1) st0 (Nat.zero_le _) (by omega)).1 0
    have ev : Ev t 0 0 st0 r := d.ev
    by_cases hb : BadR t r
    · exact Or.inl ⟨2, Or.inr ⟨by omega, r, ev, Or.inl ⟨hb, rfl⟩⟩⟩
    · by_cases hs : 60 < sizeAt r.2.2 r.1
      · exact Or.inl ⟨3, Or.inr ⟨by omega, r, ev, Or.inr ⟨hb, hs, rfl⟩⟩⟩
      · exact Or.inr ⟨r, by omega, ev, hb, by omega⟩
theorem PatE.ne {t : ByteArray} {e : Int} (h : PatE t e) : e = 2 ∨ e = 3 := by
  rcases h with ⟨_, rfl⟩ | ⟨_, r, _, ⟨_, rfl⟩ | ⟨_, _, rfl⟩⟩
  · exact Or.inr rfl
  · exact Or.inl rfl
  · exact Or.inr rfl
theorem PatE.one {t : ByteArray} {e e' : Int} (h : PatE t e) (h' : PatE t e') : e = e' := by
  rcases h with ⟨a, rfl⟩ | ⟨a, r, ev, hc⟩ <;> rcases h' with ⟨b, rfl⟩ | ⟨b, r', ev', hc'⟩
  · rfl
  · omega
  · omega
  · have := ev.one ev'
    subst this
    rcases hc with ⟨h1, rfl⟩ | ⟨h1, h2, rfl⟩ <;> rcases hc' with ⟨h3, rfl⟩ | ⟨h3, h4, rfl⟩
    · rfl
    · exact absurd h1 h3
    · exact absurd h3 h1
    · rfl
theorem PatOk.not {t : ByteArray} {e : Int} {r : Nat × PS} (h : PatOk t r) (h' : PatE t e) : False := by
  have := h.small
  rcases h' with ⟨b, rfl⟩ | ⟨b, r', ev', hc'⟩
  · omega
  · have := h.ev.one ev'
    subst this
    rcases hc' with ⟨h3, _⟩ | ⟨h3, h4, _⟩
    · exact h.good h3
    · have := h.size; omega
theorem PatOk.okay {t : ByteArray} {r : Nat × PS} (h : PatOk t r) : Okay t r := okay_of h.small h.ev h.size

/-- Selected: the whole line; somewhere in it. -/
def selB (r : Nat × PS) (fold whole : Bool) (l : ByteArray) : Bool := matchesP (buildP r.2.2 (lastQ r.2.2 r.2.2.length) fold whole) l
theorem root_part {t : ByteArray} {r : Nat × PS} (h : PatOk t r) : lastQ r.2.2 r.2.2.length = partN r.2.2 r.1 ∧ PartOfN r.2.2 r.1 := by
  have o := h.okay
  have htop := o.top
  exact ⟨by rw [← o.top]; rfl, part_all o.ok o.all o.len (r.1 + 1) r.1 (by omega) (by omega)⟩
theorem sel_whole {t : ByteArray} {r : Nat × PS} (h : PatOk t r) (fold : Bool) (l : ByteArray) : selB r fold true l = true ↔ Mat r.2.2 fold l r.1 0 l.size := by
  obtain ⟨e, p⟩ := root_part h
  unfold selB
  rw [e, whole_iff (mf_of r.2.2 _ p.fit fold true)]
  constructor
  · rintro ⟨u, h1, h2⟩
    exact ⟨_, (p.lang _).1 ⟨u, (runX_acc p.fit).1 h1, rfl⟩, h2⟩
  · rintro ⟨u, h1, h2⟩
    obtain ⟨v, h3, rfl⟩ := (p.lang _).2 h1
    exact ⟨v, (runX_acc p.fit).2 h3, h2⟩
theorem sel_any {t : ByteArray} {r : Nat × PS} (h : PatOk t r) (fold : Bool) (l : ByteArray) : selB r fold false l = true ↔ ∃ i j, Mat r.2.2 fold l r.1 i j := by
  obtain ⟨e, p⟩ := root_part h
  unfold selB
  rw [e, any_iff (mf_of r.2.2 _ p.fit fold false)]
  constructor
  · rintro ⟨i, j, u, h1, h2⟩
    exact ⟨i, j, _, (p.lang _).1 ⟨u, (runX_acc p.fit).1 h1, rfl⟩, h2⟩
  · rintro ⟨i, j, u, h1, h2⟩
    obtain ⟨v, h3, rfl⟩ := (p.lang _).2 h1
    exact ⟨i, j, v, (runX_acc p.fit).2 h3, h2⟩

theorem match_bad {t : ByteArray} {x : Int} (h : PatE t x) (inv fold whole num : Bool) (l : ByteArray) (w : World) (ht : t.size ≤ maxLen) (hl : l.size ≤ maxLen) :
    Calls Try.prog 15 #[.agg #[.bool inv, .bool fold, .bool whole, .bool num, .int .i64 0], .string t, .string l] w fun e w' => e = .returned (.tuple #[.bool false, .int .i64 x]) ∧ Below w.heap.size w w' := by
  refine (match_any all_ready inv fold whole num 0 t l w (by omega) (by omega) ht hl).mono ?_
  rintro e w' ⟨h1, h2⟩
  refine ⟨?_, h2⟩
  rcases h1 with ⟨h3, _⟩ | ⟨_, h3, rfl⟩ | ⟨_, h3, r, ev, hidx, hc⟩
  · omega
  · rw [h.one (Or.inl ⟨h3, rfl⟩)]
  · rcases hc with ⟨h4, rfl⟩ | ⟨h4, h5, rfl⟩ | ⟨h4, h5, _⟩ | ⟨h4, h5, _⟩
    · rw [h.one (Or.inr ⟨h3, r, ev, Or.inl ⟨h4, rfl⟩⟩)]
    · rw [h.one (Or.inr ⟨h3, r, ev, Or.inr ⟨h4, h5, rfl⟩⟩)]
    · exact absurd h (fun hE => PatOk.not ⟨h3, ev, h4, h5⟩ hE)
    · exact absurd h (fun hE => PatOk.not ⟨h3, ev, h4, h5⟩ hE)
theorem match_ok {t : ByteArray} {r : Nat × PS} (h : PatOk t r) (inv fold whole num : Bool) (l : ByteArray) (w : World) (hl : IsLine l) :
    Calls Try.prog 15 #[.agg #[.bool inv, .bool fold, .bool whole, .bool num, .int .i64 0], .string t, .string l] w fun e w' => e = .returned (.tuple #[.bool (selB r fold whole l != inv), .int .i64 0]) ∧ Below w.heap.size w w' := by
  have hs := h.small
  have hls := hl.1
  refine (match_any all_ready inv fold whole num 0 t l w (by omega) (by omega) (by unfold maxLen; omega) (by unfold maxLen; omega)).mono ?_
  rintro e w' ⟨h1, h2⟩
  refine ⟨?_, h2⟩
  rcases h1 with ⟨h3, _⟩ | ⟨_, h3, rfl⟩ | ⟨_, h3, r', ev, hidx, hc⟩
  · omega
  · omega
  · have he := h.ev.one ev
    subst he
    rcases hc with ⟨h4, rfl⟩ | ⟨h4, h5, rfl⟩ | ⟨h4, h5, h6, _⟩ | ⟨h4, h5, h6, rfl⟩
    · exact absurd h4 h.good
    · have := h.size; omega
    · exact absurd hl h6
    · rfl
theorem check_bad {t : ByteArray} {x : Int} (h : PatE t x) (w : World) (ht : t.size ≤ maxLen) :
    Calls Try.prog 12 #[.string t] w fun e w' => e = .returned (.tuple #[.int .i64 0, .int .i64 x]) ∧ Below w.heap.size w w' := by
  by_cases hlen : 40 < t.size
  · rw [h.one (Or.inl ⟨hlen, rfl⟩)]
    exact check_long t w hlen ht
  · refine (check_any t w (by omega)).mono ?_
    rintro e w' ⟨h1, r, ev, hidx, hc⟩
    refine ⟨?_, h1⟩
    rcases hc with ⟨h4, rfl⟩ | ⟨h4, h5, rfl⟩ | ⟨h4, h5, _⟩
    · rw [h.one (Or.inr ⟨by omega, r, ev, Or.inl ⟨h4, rfl⟩⟩)]
    · rw [h.one (Or.inr ⟨by omega, r, ev, Or.inr ⟨h4, h5, rfl⟩⟩)]
    · exact absurd h (fun hE => PatOk.not ⟨by omega, ev, h4, h5⟩ hE)
theorem check_ok {t : ByteArray} {r : Nat × PS} (h : PatOk t r) (w : World) :
    Calls Try.prog 12 #[.string t] w fun e w' => e = .returned (.tuple #[.int .i64 (sizeAt r.2.2 r.1), .int .i64 0]) ∧ Below w.heap.size w w' := by
  refine (check_any t w h.small).mono ?_
  rintro e w' ⟨h1, r', ev, hidx, hc⟩
  refine ⟨?_, h1⟩
  have he := h.ev.one ev
  subst he
  rcases hc with ⟨h4, rfl⟩ | ⟨h4, h5, rfl⟩ | ⟨h4, h5, rfl⟩
  · exact absurd h4 h.good
  · have := h.size; omega
  · rfl

/- THE PATTERN a. -/
def aText : ByteArray := ⟨#[97]⟩
def aRes : Nat × PS := (0, ((1, false), [{ kind := 1, its := [(97, 97)], size := 1 }]))
theorem a_ok : PatOk aText aRes := by
  refine ⟨by decide, ?_, ?_, by decide⟩
  · have d : D aText 0 0 st0 aRes := by
      have e1 : (nextS aText st0.1).1 = 97 := by decide
      have e2 : plainS aText (nextS aText st0.1).1 ((nextS aText st0.1).2, st0.2) = aRes := rfl
      have d3 : D aText 3 0 st0 aRes := by rw [← e2]; exact D.plain (by rw [e1]; decide) (by rw [e1]; decide)
      have d6 : D aText 6 aRes.1 aRes.2 (aRes.1, aRes.2) := D.repEnd (by decide)
      have d5 : D aText 5 aRes.1 aRes.2 (aRes.1, aRes.2) := D.andEnd (by decide)
      have d4 : D aText 4 aRes.1 aRes.2 (aRes.1, aRes.2) := D.orEnd (by decide)
      exact D.pattern (D.branch (by decide) (D.piece d3 d6) d5) d4
    exact d.ev
  · rintro (h | h)
    · exact absurd h (by decide)
    · exact absurd h (by decide)
theorem a_line : IsLine aText := ⟨by decide, fun i hi h => by
  have : i = 0 := by have : aText.size = 1 := rfl; omega
  subst this
  have : aText[0].toNat = 97 := rfl
  omega⟩
theorem a_sel : selB aRes false false aText = true := by
  rw [sel_any a_ok]
  refine ⟨0, 1, [0], W.step (n := { kind := 1, its := [(97, 97)], size := 1 }) rfl (Or.inl rfl), 1, ⟨_, rfl, Or.inl ⟨rfl, rfl, by decide, by decide⟩⟩, rfl, by decide⟩

set_option maxHeartbeats 1000000 in
theorem matching_any (w : World) : Calls Try.prog 17 #[] w fun e w' => e = .returned (.bool true) ∧ Below w.heap.size w w' := by
  have hc : Hid (∀ w, Calls _ _ _ w _) := fun w => check_ok a_ok w
  have hm : Hid (∀ w, Calls _ _ _ w _) := fun w => match_ok a_ok false false false false aText w a_line
  rw [a_sel] at hm
  have e1 : sizeAt aRes.2.2 aRes.1 = 1 := by decide
  rw [e1] at hc
  unfold aText at hc hm
  clear e1
  go_enter Try.func17, Try.ntmps17
  go_wp2_with (first
    | (go_at_call 12; refine (hc.out _).mono ?_; rintro e w1 ⟨rfl, b1⟩)
    | (go_at_call 15; refine (hm.out _).mono ?_; rintro e w2 ⟨rfl, b2⟩))
  go_ret
  exact ⟨rfl, b1.trans (b2.mono b1.size)⟩

set_option maxHeartbeats 1000000 in
theorem whole_ok {p : ByteArray} {r : Nat × PS} (h : PatOk p r) (fold : Bool) (s : ByteArray) (hs : IsLine s) (w : World) :
    Calls Try.prog 21 #[.string p, .bool fold, .string s] w fun e w' => e = .returned (.bool (selB r fold true s)) ∧ Below w.heap.size w w' := by
  have hm : Hid (∀ w, Calls _ _ _ w _) := fun w => match_ok h false fold true false s w hs
  have hb : ∀ b : Bool, (b != false) = b := fun b => by cases b <;> rfl
  rw [hb] at hm
  clear hb h
  generalize selB r fold true s = Y at *
  cases Y <;>
  · go_enter Try.func21, Try.ntmps21
    go_wp2_with (go_at_call 15; refine (hm.out _).mono ?_; rintro e w1 ⟨rfl, b1⟩)
    go_ret
    exact ⟨rfl, b1⟩

/-- A ^ or a $ stands in it. -/
def Anch (p : ByteArray) (q : Nat) : Prop := ∃ i, i < q ∧ ∃ h : i < p.size, p[i].toNat = 94 ∨ p[i].toNat = 36
noncomputable def anchB (p : ByteArray) : Bool := @decide (Anch p p.size) (Classical.propDecidable _)
theorem anchB_true {p : ByteArray} (h : Anch p p.size) : anchB p = true := by unfold anchB; exact @decide_eq_true _ (Classical.propDecidable _) h
theorem anchB_false {p : ByteArray} (h : ¬ Anch p p.size) : anchB p = false := by unfold anchB; exact @decide_eq_false _ (Classical.propDecidable _) h

set_option maxHeartbeats 1000000 in
theorem anchored_any (p : ByteArray) (hp : p.size ≤ maxLen) (w : World) :
    Calls Try.prog 20 #[.string p] w fun e w' => e = .returned (.bool (anchB p)) ∧ w' = w := by
  unfold maxLen at hp
  go_enter Try.func20, Try.ntmps20
  go_wp2
  go_loop [3] (fun iv => ∃ q : Nat, iv = .int .i64 (q : Int) ∧ q ≤ p.size ∧ ¬ Anch p q) (fun iv => ((p.size : Int) - intOf iv).toNat)
  case atStart => exact ⟨0, rfl, by omega, fun ⟨i, hi, _⟩ => by omega⟩
  case round =>
    obtain ⟨q, rfl, hq, hno⟩ := hrel
    have hnoH : Hid (¬ Anch p q) := hno
    clear hno
    by_cases hlt : (q : Int) < (p.size : Int)
    · have hqn : q < p.size := by omega
      have hyes : Hid (((p[q].toNat : Int) = 94 ∨ (p[q].toNat : Int) = 36) → Anch p p.size) := fun h => ⟨q, hqn, hqn, by omega⟩
      have hnext : Hid ((p[q].toNat : Int) ≠ 94 → (p[q].toNat : Int) ≠ 36 → ¬ Anch p (q + 1)) := fun h1 h2 ⟨i, hi, h, hc⟩ => by
        by_cases hiq : i = q
        · subst hiq; omega
        · exact hnoH.out ⟨i, by omega, h, hc⟩
      by_cases h1 : (p[q].toNat : Int) = 94
      · have hY : Hid _ := hyes.out (Or.inl h1)
        clear hyes hnext
        go_wp2
        go_ret
        exact ⟨by rw [anchB_true hY.out]; rfl, rfl⟩
      · by_cases h2 : (p[q].toNat : Int) = 36
        · have hY : Hid _ := hyes.out (Or.inr h2)
          clear hyes hnext
          go_wp2
          go_ret
          exact ⟨by rw [anchB_true hY.out]; rfl, rfl⟩
        · have hN : Hid _ := hnext.out h1 h2
          have n1 : (p[q].toNat : Int) ≠ 94 := h1
          have n2 : (p[q].toNat : Int) ≠ 36 := h2
          have e1 : ((p[q].toNat : Int) == 94) = false := beq_eq_false_iff_ne.2 h1
          have e2 : ((p[q].toNat : Int) == 36) = false := beq_eq_false_iff_ne.2 h2
          clear hyes hnext h1 h2
          go_wp2
          refine ⟨⟨q + 1, by go_num, by omega, hN.out⟩, ?_⟩
          simp only [intOf]; omega
    · have hqe : q = p.size := by omega
      have hN : Hid (¬ Anch p p.size) := by have := hnoH.out; rw [hqe] at this; exact this
      clear hqe
      go_wp2
      go_ret
      exact ⟨by rw [anchB_false hN.out]; rfl, rfl⟩

set_option maxHeartbeats 1000000 in
theorem some_any (p : ByteArray) (n : Nat) (hn : n ≤ 1000) (hp : p.size ≤ maxLen) (w : World) :
    Calls Try.prog 27 #[.string p, .int .i64 (n : Int)] w fun e w' => e = .returned (.string (if n < p.size then p.extract 0 n else p)) ∧ w' = w := by
  unfold maxLen at hp
  by_cases h : (n : Int) < (p.size : Int)
  · rw [if_pos (by omega)]
    go_enter Try.func27, Try.ntmps27
    go_wp2
    go_ret
    exact ⟨rfl, rfl⟩
  · rw [if_neg (by omega)]
    go_enter Try.func27, Try.ntmps27
    go_wp2
    go_ret
    exact ⟨rfl, rfl⟩

end Go.Proofs.Ytjhmkkhnnijigaa
