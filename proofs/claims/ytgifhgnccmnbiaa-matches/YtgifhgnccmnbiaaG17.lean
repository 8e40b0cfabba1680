/- Package sift: Check and Match, told by what the pattern is. -/
import Derived.Test.YtgifhgnccmnbiaaG16
import Derived.Test.YtgifhgnccmnbiaaG01
import Derived.ProofKit
import Derived.OpenShut
import Derived.ShutString
import Derived.ChangeSame
set_option linter.unusedVariables false
set_option linter.unusedSimpArgs false
namespace Go.Proofs.Ytgifhgnccmnbiaa
open Go.RowKit Go.IntWalk

/-- The text is refused as a pattern, with this error. -/
def PatE (t : ByteArray) (e : Int) : Prop :=
  (40 < t.size ∧ e = 3) ∨ (t.size ≤ 40 ∧ ∃ r : Nat × PS, Ev t 0 0 st0 r ∧ ((BadR t r ∧ e = 2) ∨ (¬ BadR t r ∧ 60 < sizeAt r.2.2 r.1 ∧ e = 3)))
/-- The text is a pattern, and this is what was read. -/
structure PatOk (t : ByteArray) (r : Nat × PS) : Prop where
  small : t.size ≤ 40
  ev : Ev t 0 0 st0 r
  good : ¬ BadR t r
  size : sizeAt r.2.2 r.1 ≤ 60
theorem pat_cases (t : ByteArray) : (∃ e, PatE t e) ∨ ∃ r, PatOk t r := by
  by_cases h : 40 < t.size
  · exact Or.inl ⟨3, Or.inl ⟨h, rfl⟩⟩
  · obtain ⟨r, d, _⟩ := (below_all (t := t) (t.size + 1) st0 (Nat.zero_le _) (by omega)).1 0
    have ev : Ev t 0 0 st0 r := d.ev
    by_cases hb : BadR t r
    · exact Or.inl ⟨2, Or.inr ⟨by omega, r, ev, Or.inl ⟨hb, rfl⟩⟩⟩
    · by_cases hs : 60 < sizeAt r.2.2 r.1
      · exact Or.inl ⟨3, Or.inr ⟨by omega, r, ev, Or.inr ⟨hb, hs, rfl⟩⟩⟩
      · exact Or.inr ⟨r, by omega, ev, hb, by omega⟩
theorem PatE.ne {t : ByteArray} {e : Int} (h : PatE t e) : e = 2 ∨ e = 3 := by
  rcases h with ⟨_, rfl⟩ | ⟨_, r, _, ⟨_, rfl⟩ | ⟨_, _, rfl⟩⟩
  · exact Or.inr rfl
  · exact Or.inl rfl
  · exact Or.inr rfl
theorem PatE.one {t : ByteArray} {e e' : Int} (h : PatE t e) (h' : PatE t e') : e = e' := by
  rcases h with ⟨a, rfl⟩ | ⟨a, r, ev, hc⟩ <;> rcases h' with ⟨b, rfl⟩ | ⟨b, r', ev', hc'⟩
  · rfl
  · omega
  · omega
  · have := ev.one ev'
    subst this
    rcases hc with ⟨h1, rfl⟩ | ⟨h1, h2, rfl⟩ <;> rcases hc' with ⟨h3, rfl⟩ | ⟨h3, h4, rfl⟩
    · rfl
    · exact absurd h1 h3
    · exact absurd h3 h1
    · rfl
theorem PatOk.not {t : ByteArray} {e : Int} {r : Nat × PS} (h : PatOk t r) (h' : PatE t e) : False := by
  have := h.small
  rcases h' with ⟨b, rfl⟩ | ⟨b, r', ev', hc'⟩
  · omega
  · have := h.ev.one ev'
    subst this
    rcases hc' with ⟨h3, _⟩ | ⟨h3, h4, _⟩
    · exact h.good h3
    · have := h.size; omega
theorem PatOk.okay {t : ByteArray} {r : Nat × PS} (h : PatOk t r) : Okay t r := okay_of h.small h.ev h.size

/-- Selected: the whole line; somewhere in it. -/
def selB (r : Nat × PS) (fold whole : Bool) (l : ByteArray) : Bool := matchesP (buildP r.2.2 (lastQ r.2.2 r.2.2.length) fold whole) l
theorem root_part {t : ByteArray} {r : Nat × PS} (h : PatOk t r) : lastQ r.2.2 r.2.2.length = partN r.2.2 r.1 ∧ PartOfN r.2.2 r.1 := by
  have o := h.okay
  have htop := o.top
  exact ⟨by rw [← o.top]; rfl, part_all o.ok o.all o.len (r.1 + 1) r.1 (by omega) (by omega)⟩
theorem all_same : allSame := fun t r ht ev hb hs fold whole l => by
  obtain ⟨e, p⟩ := root_part ⟨ht, ev, hb, hs⟩
  rw [e]
  exact matches_same (mf_of r.2.2 _ p.fit fold whole) (built_hi r.2.2 _ fold whole _ p.fit.room)
theorem sel_whole {t : ByteArray} {r : Nat × PS} (h : PatOk t r) (fold : Bool) (l : ByteArray) : selB r fold true l = true ↔ Mat r.2.2 fold l r.1 0 l.size := by
  obtain ⟨e, p⟩ := root_part h
  unfold selB
  rw [e, whole_iff (mf_of r.2.2 _ p.fit fold true)]
  constructor
  · rintro ⟨u, h1, h2⟩
    exact ⟨_, (p.lang _).1 ⟨u, (runX_acc p.fit).1 h1, rfl⟩, h2⟩
  · rintro ⟨u, h1, h2⟩
    obtain ⟨v, h3, rfl⟩ := (p.lang _).2 h1
    exact ⟨v, (runX_acc p.fit).2 h3, h2⟩
theorem sel_any {t : ByteArray} {r : Nat × PS} (h : PatOk t r) (fold : Bool) (l : ByteArray) : selB r fold false l = true ↔ ∃ i j, Mat r.2.2 fold l r.1 i j := by
  obtain ⟨e, p⟩ := root_part h
  unfold selB
  rw [e, any_iff (mf_of r.2.2 _ p.fit fold false)]
  constructor
  · rintro ⟨i, j, u, h1, h2⟩
    exact ⟨i, j, _, (p.lang _).1 ⟨u, (runX_acc p.fit).1 h1, rfl⟩, h2⟩
  · rintro ⟨i, j, u, h1, h2⟩
    obtain ⟨v, h3, rfl⟩ := (p.lang _).2 h1
    exact ⟨i, j, v, (runX_acc p.fit).2 h3, h2⟩

theorem match_bad {t : ByteArray} {x : Int} (h : PatE t x) (inv fold whole num : Bool) (l : ByteArray) (w : World) (ht : t.size ≤ maxLen) (hl : l.size ≤ maxLen) :
    Calls Try.prog 18 #[.agg #[.bool inv, .bool fold, .bool whole, .bool num, .int .i64 0], .string t, .string l] w fun e w' => e = .returned (.tuple #[.bool false, .int .i64 x]) ∧ Below w.heap.size w w' := by
  refine (match_any all_ready all_same inv fold whole num 0 t l w (by omega) (by omega) ht hl).mono ?_
  rintro e w' ⟨h1, h2⟩
  refine ⟨?_, h2⟩
  rcases h1 with ⟨h3, _⟩ | ⟨_, h3, rfl⟩ | ⟨_, h3, r, ev, hidx, hc⟩
  · omega
  · rw [h.one (Or.inl ⟨h3, rfl⟩)]
  · rcases hc with ⟨h4, rfl⟩ | ⟨h4, h5, rfl⟩ | ⟨h4, h5, _⟩ | ⟨h4, h5, _⟩
    · rw [h.one (Or.inr ⟨h3, r, ev, Or.inl ⟨h4, rfl⟩⟩)]
    · rw [h.one (Or.inr ⟨h3, r, ev, Or.inr ⟨h4, h5, rfl⟩⟩)]
    · exact absurd h (fun hE => PatOk.not ⟨h3, ev, h4, h5⟩ hE)
    · exact absurd h (fun hE => PatOk.not ⟨h3, ev, h4, h5⟩ hE)
theorem match_ok {t : ByteArray} {r : Nat × PS} (h : PatOk t r) (inv fold whole num : Bool) (l : ByteArray) (w : World) (hl : IsLine l) :
    Calls Try.prog 18 #[.agg #[.bool inv, .bool fold, .bool whole, .bool num, .int .i64 0], .string t, .string l] w fun e w' => e = .returned (.tuple #[.bool (selB r fold whole l != inv), .int .i64 0]) ∧ Below w.heap.size w w' := by
  have hs := h.small
  have hls := hl.1
  refine (match_any all_ready all_same inv fold whole num 0 t l w (by omega) (by omega) (by unfold maxLen; omega) (by unfold maxLen; omega)).mono ?_
  rintro e w' ⟨h1, h2⟩
  refine ⟨?_, h2⟩
  rcases h1 with ⟨h3, _⟩ | ⟨_, h3, rfl⟩ | ⟨_, h3, r', ev, hidx, hc⟩
  · omega
  · omega
  · have he := h.ev.one ev
    subst he
    rcases hc with ⟨h4, rfl⟩ | ⟨h4, h5, rfl⟩ | ⟨h4, h5, h6, _⟩ | ⟨h4, h5, h6, rfl⟩
    · exact absurd h4 h.good
    · have := h.size; omega
    · exact absurd hl h6
    · rfl
theorem check_bad {t : ByteArray} {x : Int} (h : PatE t x) (w : World) (ht : t.size ≤ maxLen) :
    Calls Try.prog 15 #[.string t] w fun e w' => e = .returned (.tuple #[.int .i64 0, .int .i64 x]) ∧ Below w.heap.size w w' := by
  by_cases hlen : 40 < t.size
  · rw [h.one (Or.inl ⟨hlen, rfl⟩)]
    exact check_long t w hlen ht
  · refine (check_any t w (by omega)).mono ?_
    rintro e w' ⟨h1, r, ev, hidx, hc⟩
    refine ⟨?_, h1⟩
    rcases hc with ⟨h4, rfl⟩ | ⟨h4, h5, rfl⟩ | ⟨h4, h5, _⟩
    · rw [h.one (Or.inr ⟨by omega, r, ev, Or.inl ⟨h4, rfl⟩⟩)]
    · rw [h.one (Or.inr ⟨by omega, r, ev, Or.inr ⟨h4, h5, rfl⟩⟩)]
    · exact absurd h (fun hE => PatOk.not ⟨by omega, ev, h4, h5⟩ hE)
theorem check_ok {t : ByteArray} {r : Nat × PS} (h : PatOk t r) (w : World) :
    Calls Try.prog 15 #[.string t] w fun e w' => e = .returned (.tuple #[.int .i64 (sizeAt r.2.2 r.1), .int .i64 0]) ∧ Below w.heap.size w w' := by
  refine (check_any t w h.small).mono ?_
  rintro e w' ⟨h1, r', ev, hidx, hc⟩
  refine ⟨?_, h1⟩
  have he := h.ev.one ev
  subst he
  rcases hc with ⟨h4, rfl⟩ | ⟨h4, h5, rfl⟩ | ⟨h4, h5, rfl⟩
  · exact absurd h4 h.good
  · have := h.size; omega
  · rfl

/- THE PATTERN a. -/
def aText : ByteArray := ⟨#[97]⟩
def aRes : Nat × PS := (0, ((1, false), [{ kind := 1, its := [(97, 97)], size := 1 }]))
theorem a_ok : PatOk aText aRes := by
  refine ⟨by decide, ?_, ?_, by decide⟩
  · have d : D aText 0 0 st0 aRes := by
      have e1 : (nextS aText st0.1).1 = 97 := by decide
      have e2 : plainS aText (nextS aText st0.1).1 ((nextS aText st0.1).2, st0.2) = aRes := rfl
      have d3 : D aText 3 0 st0 aRes := by rw [← e2]; exact D.plain (by rw [e1]; decide) (by rw [e1]; decide)
      have d6 : D aText 6 aRes.1 aRes.2 (aRes.1, aRes.2) := D.repEnd (by decide)
      have d5 : D aText 5 aRes.1 aRes.2 (aRes.1, aRes.2) := D.andEnd (by decide)
      have d4 : D aText 4 aRes.1 aRes.2 (aRes.1, aRes.2) := D.orEnd (by decide)
      exact D.pattern (D.branch (by decide) (D.piece d3 d6) d5) d4
    exact d.ev
  · rintro (h | h)
    · exact absurd h (by decide)
    · exact absurd h (by decide)
theorem a_line : IsLine aText := ⟨by decide, fun i hi h => by
  have : i = 0 := by have : aText.size = 1 := rfl; omega
  subst this
  have : aText[0].toNat = 97 := rfl
  omega⟩
theorem a_sel : selB aRes false false aText = true := by
  rw [sel_any a_ok]
  refine ⟨0, 1, [0], W.step (n := { kind := 1, its := [(97, 97)], size := 1 }) rfl (Or.inl rfl), 1, ⟨_, rfl, Or.inl ⟨rfl, rfl, by decide, by decide⟩⟩, rfl, by decide⟩

set_option maxHeartbeats 1000000 in
theorem matching_any (w : World) : Calls Try.prog 20 #[] w fun e w' => e = .returned (.bool true) ∧ Below w.heap.size w w' := by
  have hc : Hid (∀ w, Calls _ _ _ w _) := fun w => check_ok a_ok w
  have hm : Hid (∀ w, Calls _ _ _ w _) := fun w => match_ok a_ok false false false false aText w a_line
  rw [a_sel] at hm
  have e1 : sizeAt aRes.2.2 aRes.1 = 1 := by decide
  rw [e1] at hc
  unfold aText at hc hm
  clear e1
  go_enter Try.func20, Try.ntmps20
  go_wp2_with (first
    | (go_at_call 15; refine (hc.out _).mono ?_; rintro e w1 ⟨rfl, b1⟩)
    | (go_at_call 18; refine (hm.out _).mono ?_; rintro e w2 ⟨rfl, b2⟩))
  go_ret
  exact ⟨rfl, b1.trans (b2.mono b1.size)⟩

set_option maxHeartbeats 1000000 in
theorem whole_ok {p : ByteArray} {r : Nat × PS} (h : PatOk p r) (fold : Bool) (s : ByteArray) (hs : IsLine s) (w : World) :
    Calls Try.prog 24 #[.string p, .bool fold, .string s] w fun e w' => e = .returned (.bool (selB r fold true s)) ∧ Below w.heap.size w w' := by
  have hm : Hid (∀ w, Calls _ _ _ w _) := fun w => match_ok h false fold true false s w hs
  have hb : ∀ b : Bool, (b != false) = b := fun b => by cases b <;> rfl
  rw [hb] at hm
  clear hb h
  generalize selB r fold true s = Y at *
  cases Y <;>
  · go_enter Try.func24, Try.ntmps24
    go_wp2_with (go_at_call 18; refine (hm.out _).mono ?_; rintro e w1 ⟨rfl, b1⟩)
    go_ret
    exact ⟨rfl, b1⟩

/-- A ^ or a $ stands in it. -/
def Anch (p : ByteArray) (q : Nat) : Prop := ∃ i, i < q ∧ ∃ h : i < p.size, p[i].toNat = 94 ∨ p[i].toNat = 36
noncomputable def anchB (p : ByteArray) : Bool := @decide (Anch p p.size) (Classical.propDecidable _)
theorem anchB_true {p : ByteArray} (h : Anch p p.size) : anchB p = true := by unfold anchB; exact @decide_eq_true _ (Classical.propDecidable _) h
theorem anchB_false {p : ByteArray} (h : ¬ Anch p p.size) : anchB p = false := by unfold anchB; exact @decide_eq_false _ (Classical.propDecidable _) h

set_option maxHeartbeats 1000000 in
theorem anchored_any (p : ByteArray) (hp : p.size ≤ maxLen) (w : World) :
    Calls Try.prog 23 #[.string p] w fun e w' => e = .returned (.bool (anchB p)) ∧ w' = w := by
  unfold maxLen at hp
  go_enter Try.func23, Try.ntmps23
  go_wp2
  go_loop [3] (fun iv => ∃ q : Nat, iv = .int .i64 (q : Int) ∧ q ≤ p.size ∧ ¬ Anch p q) (fun iv => ((p.size : Int) - intOf iv).toNat)
  case atStart => exact ⟨0, rfl, by omega, fun ⟨i, hi, _⟩ => by omega⟩
  case round =>
    obtain ⟨q, rfl, hq, hno⟩ := hrel
    have hnoH : Hid (¬ Anch p q) := hno
    clear hno
    by_cases hlt : (q : Int) < (p.size : Int)
    · have hqn : q < p.size := by omega
      have hyes : Hid (((p[q].toNat : Int) = 94 ∨ (p[q].toNat : Int) = 36) → Anch p p.size) := fun h => ⟨q, hqn, hqn, by omega⟩
      have hnext : Hid ((p[q].toNat : Int) ≠ 94 → (p[q].toNat : Int) ≠ 36 → ¬ Anch p (q + 1)) := fun h1 h2 ⟨i, hi, h, hc⟩ => by
        by_cases hiq : i = q
        · subst hiq; omega
        · exact hnoH.out ⟨i, by omega, h, hc⟩
      by_cases h1 : (p[q].toNat : Int) = 94
      · have hY : Hid _ := hyes.out (Or.inl h1)
        clear hyes hnext
        go_wp2
        go_ret
        exact ⟨by rw [anchB_true hY.out]; rfl, rfl⟩
      · by_cases h2 : (p[q].toNat : Int) = 36
        · have hY : Hid _ := hyes.out (Or.inr h2)
          clear hyes hnext
          go_wp2
          go_ret
          exact ⟨by rw [anchB_true hY.out]; rfl, rfl⟩
        · have hN : Hid _ := hnext.out h1 h2
          have n1 : (p[q].toNat : Int) ≠ 94 := h1
          have n2 : (p[q].toNat : Int) ≠ 36 := h2
          have e1 : ((p[q].toNat : Int) == 94) = false := beq_eq_false_iff_ne.2 h1
          have e2 : ((p[q].toNat : Int) == 36) = false := beq_eq_false_iff_ne.2 h2
          clear hyes hnext h1 h2
          go_wp2
          refine ⟨⟨q + 1, by go_num, by omega, hN.out⟩, ?_⟩
          simp only [intOf]; omega
    · have hqe : q = p.size := by omega
      have hN : Hid (¬ Anch p p.size) := by have := hnoH.out; rw [hqe] at this; exact this
      clear hqe
      go_wp2
      go_ret
      exact ⟨by rw [anchB_false hN.out]; rfl, rfl⟩

set_option maxHeartbeats 1000000 in
theorem some_any (p : ByteArray) (n : Nat) (hn : n ≤ 1000) (hp : p.size ≤ maxLen) (w : World) :
    Calls Try.prog 37 #[.string p, .int .i64 (n : Int)] w fun e w' => e = .returned (.string (if n < p.size then p.extract 0 n else p)) ∧ w' = w := by
  unfold maxLen at hp
  by_cases h : (n : Int) < (p.size : Int)
  · rw [if_pos (by omega)]
    go_enter Try.func37, Try.ntmps37
    go_wp2
    go_ret
    exact ⟨rfl, rfl⟩
  · rw [if_neg (by omega)]
    go_enter Try.func37, Try.ntmps37
    go_wp2
    go_ret
    exact ⟨rfl, rfl⟩

end Go.Proofs.Ytgifhgnccmnbiaa

set_option linter.unusedVariables false
set_option linter.unusedSimpArgs false
namespace Go.Proofs.Ytgifhgnccmnbiaa
open Go.RowKit Go.IntWalk

/-- BOTH SIDES TELL THE SAME OF A PATTERN AND A LINE. -/
theorem match_same {inv fold whole : Bool} {mx : Int} {t l : ByteArray} {e e' : Ending} (h : MatchOut inv fold whole mx t l e) (h' : RMatchOut inv fold whole mx t l e')
    (hsel : ∀ r, PatOk t r → ∀ y, (∀ q, EvR t 0 [] rp0 q → SelOk whole l.size (MatR q.2.2 fold l q.1) y → y = selB r fold whole l)) : e = e' := by
  rcases h with ⟨a, rfl⟩ | ⟨a, b, rfl⟩ | ⟨a, b, r, hr, _, hc⟩ <;> rcases h' with ⟨a', rfl⟩ | ⟨a', b', rfl⟩ | ⟨a', b', q, hq, hc'⟩ <;> try omega
  · rfl
  · rfl
  · obtain ⟨s1, s2, _, _⟩ := check_same b hr hq
    rcases hc with ⟨c1, rfl⟩ | ⟨c1, c2, rfl⟩ | ⟨c1, c2, c3, rfl⟩ | ⟨c1, c2, c3, rfl⟩ <;> rcases hc' with ⟨d1, rfl⟩ | ⟨d1, d2, rfl⟩ | ⟨d1, d2, d3, rfl⟩ | ⟨d1, d2, d3, y, rfl, d4⟩
    · rfl
    · exact absurd (s1.1 c1) d1
    · exact absurd (s1.1 c1) d1
    · exact absurd (s1.1 c1) d1
    · exact absurd (s1.2 d1) c1
    · rfl
    · have h1 := s2 d1; unfold cap61 at h1; split at h1 <;> omega
    · have h1 := s2 d1; unfold cap61 at h1; split at h1 <;> omega
    · exact absurd (s1.2 d1) c1
    · have h1 := s2 d1; unfold cap61 at h1; split at h1 <;> omega
    · rfl
    · exact absurd d3 c3
    · exact absurd (s1.2 d1) c1
    · have h1 := s2 d1; unfold cap61 at h1; split at h1 <;> omega
    · exact absurd c3 d3
    · rw [hsel r ⟨b, hr, c1, c2⟩ y q hq d4]; rfl

/-- What is selected is the same. -/
theorem sel_same {t l : ByteArray} {r : Nat × PS} (h : PatOk t r) {fold whole y : Bool} {q : Nat × RP} (hq : EvR t 0 [] rp0 q) (hs : SelOk whole l.size (MatR q.2.2 fold l q.1) y) : y = selB r fold whole l := by
  obtain ⟨s1, s2, hw, s4⟩ := check_same h.small h.ev hq
  have hnb : ¬ BadT t q := fun hc => h.good (s1.2 hc)
  have same := (s4 hnb).iff [] [] (by rw [List.append_nil]; exact hw) fold l
  simp only [List.append_nil] at same
  rw [Bool.eq_iff_iff]
  cases whole with
  | true => rw [hs.all rfl, sel_whole h]; exact same 0 l.size (by omega) (Nat.le_refl _)
  | false =>
    rw [hs.part rfl, sel_any h]
    constructor
    · rintro ⟨a, b, h1, h2, h3⟩; exact ⟨a, b, (same a b (by omega) h2).1 h3⟩
    · rintro ⟨a, b, h3⟩
      have hb := h3.le
      exact ⟨a, b, hb.2.2, hb.2.1, (same a b hb.1 hb.2.1).2 h3⟩

theorem good_of {t : ByteArray} (ht : t.size ≤ 40) : ∀ q, EvR t 0 [] rp0 q → ¬ BadT t q → GoodT q.2.2 q.1 := fun q hq hb => by
  obtain ⟨r, d, _⟩ := (below_all (t := t) (t.size + 1) st0 (Nat.zero_le _) (by omega)).1 0
  exact ((check_same ht d.ev hq).2.2.2 hb).good

/-- A tuple of a truth and a number. -/
theorem match_form {inv fold whole : Bool} {mx : Int} {t l : ByteArray} {e : Ending} (h : MatchOut inv fold whole mx t l e) : ∃ (y : Bool) (k : Int), e = .returned (.tuple #[.bool y, .int .i64 k]) := by
  rcases h with ⟨a, rfl⟩ | ⟨a, b, rfl⟩ | ⟨a, b, r, hr, _, ⟨c1, rfl⟩ | ⟨c1, c2, rfl⟩ | ⟨c1, c2, c3, rfl⟩ | ⟨c1, c2, c3, rfl⟩⟩ <;> exact ⟨_, _, rfl⟩

set_option maxHeartbeats 1000000 in
theorem matches_law (inv fold whole num : Bool) (mx : Int) (t l : ByteArray) (w : World) (hm1 : -9223372036854775808 ≤ mx) (hm2 : mx ≤ 9223372036854775807) (ht : t.size ≤ maxLen) (hl : l.size ≤ maxLen) :
    Calls Try.prog 4 #[.agg #[.bool inv, .bool fold, .bool whole, .bool num, .int .i64 mx], .string t, .string l] w fun e w' => e = .returned (.bool true) ∧ Below w.heap.size w w' := by
  have h1 : Hid (∀ w, Calls _ _ _ w _) := fun w => match_any all_ready all_same inv fold whole num mx t l w hm1 hm2 ht hl
  have h2 : Hid (∀ w, Calls _ _ _ w _) := fun w => rmatch_any inv fold whole num mx t l w hm1 hm2 ht hl good_of
  have hB0 : Hid (Below w.heap.size w (w.alloc (.cells #[.bool inv, .bool fold, .bool whole, .bool num, .int .i64 mx] 28))) := (Below.refl _ _).alloc (Nat.le_refl _) _
  clear ht hl hm1 hm2
  go_enter Try.func4, Try.ntmps4
  go_wp2_with fail
  refine (h1.out _).mono ?_
  rintro e w1 ⟨m1, b1⟩
  have hblk : Blk w1 w.heap.size #[.bool inv, .bool fold, .bool whole, .bool num, .int .i64 mx] 28 := (b1.block w.heap.size (by simp)).trans (Blk.new w _ _)
  have hB1 : Hid (Below w.heap.size w w1) := hB0.out.trans (b1.mono (by simp))
  have e0 : w1.cell? ⟨w.heap.size, 0, none⟩ = some (.bool inv) := hblk.cell 0
  have e1 : w1.cell? ⟨w.heap.size, 1, none⟩ = some (.bool fold) := hblk.cell 1
  have e2 : w1.cell? ⟨w.heap.size, 2, none⟩ = some (.bool whole) := hblk.cell 2
  have e3 : w1.cell? ⟨w.heap.size, 3, none⟩ = some (.bool num) := hblk.cell 3
  have e4 : w1.cell? ⟨w.heap.size, 4, none⟩ = some (.int .i64 mx) := hblk.cell 4
  clear hblk b1 hB0
  obtain ⟨y, k, rfl⟩ := match_form m1
  have m1H : Hid (MatchOut _ _ _ _ _ _ _) := m1
  clear m1
  go_wp2_with fail
  refine (h2.out _).mono ?_
  rintro e w2 ⟨m2, b2⟩
  have hfin : Hid (Below w.heap.size w w2) := hB1.out.trans (b2.mono hB1.out.size)
  have := match_same m1H.out m2 (fun r hr y q hq hs => sel_same hr hq hs)
  subst this
  clear m1H m2 b2 hB1 e0 e1 e2 e3 e4 h1 h2
  cases y <;>
  · go_wp2
    go_ret
    exact ⟨rfl, hfin.out⟩

end Go.Proofs.Ytgifhgnccmnbiaa

set_option linter.unusedVariables false
set_option linter.unusedSimpArgs false
namespace Go.Proofs.Ytgifhgnccmnbiaa
open Go.ChangeShapes Go.WideShapes Go.ChangeAt Go.RowKit

theorem optCells : Try.prog.cellsOf 28 = 5 := by kernel_rfl
theorem boolCell : Try.prog.cellsOf 4 = 1 := by kernel_rfl
theorem intCell : Try.prog.cellsOf 3 = 1 := by kernel_rfl

section
variable {H : Type} {enc : TypeId × Value → H} {w : World} {base : Nat} {spare : Nat → Bool} {held : Bool}
set_option maxRecDepth 100000 in
theorem open_options {r : Reach} {b0 : Nat} {v : Value} {d : DataW H} {ps : List MemPlace} (hval : Value.okWide Try.prog w r b0 28 v) (hd : DataW.Trod enc Try.prog w base spare held 28 v d ps) :
    ∃ (i f wh nu : Bool) (mx : Int), v = .agg #[.bool i, .bool f, .bool wh, .bool nu, .int .i64 mx] ∧ d = .agg [.lit (.bool i), .lit (.bool f), .lit (.bool wh), .lit (.bool nu), .lit (.int .i64 mx)] ∧ ps = [] ∧ (Lit.int .i64 mx).wf = true := by
  obtain ⟨cs, rfl, hsz⟩ := okWide_struct Try.underlying28 hval
  rw [optCells] at hsz
  obtain ⟨l⟩ := cs
  match l, hsz with
  | [c0, c1, c2, c3, c4], _ =>
  obtain ⟨fuel, hf⟩ := hd
  obtain ⟨xs, n, _, hx, _, hlen, hall⟩ := DataW.trod_struct Try.underlying28 hf
  match xs, hlen with
  | [y0, y1, y2, y3, y4], _ =>
  have g0 : DataW.trod enc Try.prog w base spare held n 4 [c0] = some y0 := by
    have h : DataW.trod enc Try.prog w base spare held n 4 (([c0, c1, c2, c3, c4].drop 0).take (Try.prog.cellsOf 4)) = some y0 := hall 0 _ rfl
    rw [boolCell] at h
    exact h
  have g1 : DataW.trod enc Try.prog w base spare held n 4 [c1] = some y1 := by
    have h : DataW.trod enc Try.prog w base spare held n 4 (([c0, c1, c2, c3, c4].drop 1).take (Try.prog.cellsOf 4)) = some y1 := hall 1 _ rfl
    rw [boolCell] at h
    exact h
  have g2 : DataW.trod enc Try.prog w base spare held n 4 [c2] = some y2 := by
    have h : DataW.trod enc Try.prog w base spare held n 4 (([c0, c1, c2, c3, c4].drop 2).take (Try.prog.cellsOf 4)) = some y2 := hall 2 _ rfl
    rw [boolCell] at h
    exact h
  have g3 : DataW.trod enc Try.prog w base spare held n 4 [c3] = some y3 := by
    have h : DataW.trod enc Try.prog w base spare held n 4 (([c0, c1, c2, c3, c4].drop 3).take (Try.prog.cellsOf 4)) = some y3 := hall 3 _ rfl
    rw [boolCell] at h
    exact h
  have g4 : DataW.trod enc Try.prog w base spare held n 3 [c4] = some y4 := by
    have h : DataW.trod enc Try.prog w base spare held n 3 (([c0, c1, c2, c3, c4].drop 4).take (Try.prog.cellsOf 3)) = some y4 := hall 4 _ rfl
    rw [intCell] at h
    exact h
  obtain ⟨b0', e0, rfl⟩ := DataW.trod_bool Try.underlying4 g0
  obtain ⟨b1', e1, rfl⟩ := DataW.trod_bool Try.underlying4 g1
  obtain ⟨b2', e2, rfl⟩ := DataW.trod_bool Try.underlying4 g2
  obtain ⟨b3', e3, rfl⟩ := DataW.trod_bool Try.underlying4 g3
  obtain ⟨m, e4, rfl, wm⟩ := DataW.trod_int Try.underlying3 g4
  simp only [List.cons.injEq, and_true] at e0 e1 e2 e3 e4
  subst e0 e1 e2 e3 e4
  simp only [Prod.mk.injEq] at hx
  obtain ⟨rfl, rfl⟩ := hx
  exact ⟨_, _, _, _, _, rfl, rfl, rfl, wm⟩
set_option maxRecDepth 100000 in
theorem shut_options (i f wh nu : Bool) {mx : Int} (hm : (Lit.int .i64 mx).wf = true) :
    DataW.Trod enc Try.prog w base spare held 28 (.agg #[.bool i, .bool f, .bool wh, .bool nu, .int .i64 mx]) (.agg [.lit (.bool i), .lit (.bool f), .lit (.bool wh), .lit (.bool nu), .lit (.int .i64 mx)]) [] := ⟨2, by
  have fb : ∀ b : Bool, DataW.trod enc Try.prog w base spare held 1 4 [.bool b] = some (.lit (.bool b), []) := fun b => by simp [DataW.trod, Try.underlying4]
  have fi : DataW.trod enc Try.prog w base spare held 1 3 [.int .i64 mx] = some (.lit (.int .i64 mx), []) := by simp [DataW.trod, Try.underlying3, hm]
  have := trod_struct_mk (enc := enc) (w := w) (base := base) (spare := spare) (held := held) (n := 1) (cs := [.bool i, .bool f, .bool wh, .bool nu, .int .i64 mx])
    (xs := [(.lit (.bool i), []), (.lit (.bool f), []), (.lit (.bool wh), []), (.lit (.bool nu), []), (.lit (.int .i64 mx), [])]) Try.underlying28 (by simp [optCells]) (by simp [boolCell, intCell, fb, fi])
  simpa [Value.cells] using this⟩
end
end Go.Proofs.Ytgifhgnccmnbiaa
