/- The law Either, walked. -/
import Derived.Test.YtjhmkkhnnijigaaGroup
import Derived.Test.YtjhmkkhnnijigaaWithinWalk
set_option linter.unusedVariables false
set_option linter.unusedSimpArgs false
namespace Go.Proofs.Ytjhmkkhnnijigaa
open Go.RowKit Go.IntWalk

set_option maxHeartbeats 1000000 in
theorem sized_no {s : ByteArray} (h : PatE s 3) (n : Int) (hs : s.size ≤ maxLen) (hb : 40 < s.size ∨ 60 < n) (w : World) :
    Calls Try.prog 18 #[.string s, .int .i64 n] w fun e w' => e = .returned (.tuple #[.bool false, .bool true]) ∧ Below w.heap.size w w' := by
  have hc : Hid (∀ w, Calls _ _ _ w _) := fun w => check_bad h w hs
  unfold maxLen at hs
  clear h
  by_cases h1 : (40 : Int) < (s.size : Int)
  · go_enter Try.func18, Try.ntmps18
    go_wp2_with (go_at_call 12; refine (hc.out _).mono ?_; rintro e w1 ⟨rfl, b1⟩)
    go_ret2
    exact ⟨rfl, b1⟩
  · have h2 : 60 < n := by omega
    have h1 : (s.size : Int) ≤ 40 := by omega
    go_enter Try.func18, Try.ntmps18
    go_wp2_with (go_at_call 12; refine (hc.out _).mono ?_; rintro e w1 ⟨rfl, b1⟩)
    go_ret2
    exact ⟨rfl, b1⟩
set_option maxHeartbeats 1000000 in
theorem sized_yes {s : ByteArray} {r : Nat × PS} (h : PatOk s r) (w : World) :
    Calls Try.prog 18 #[.string s, .int .i64 (sizeAt r.2.2 r.1)] w fun e w' => e = .returned (.tuple #[.bool true, .bool true]) ∧ Below w.heap.size w w' := by
  have hc : Hid (∀ w, Calls _ _ _ w _) := fun w => check_ok h w
  have h1 : (s.size : Int) ≤ 40 := by have := h.small; omega
  have h2 := h.size
  clear h
  generalize sizeAt r.2.2 r.1 = n at *
  go_enter Try.func18, Try.ntmps18
  go_wp2_with (go_at_call 12; refine (hc.out _).mono ?_; rintro e w1 ⟨rfl, b1⟩)
  go_ret2
  exact ⟨rfl, b1⟩

theorem check_case (q : ByteArray) (hq : q.size ≤ maxLen) : ∃ n x : Int, 0 ≤ x ∧ x ≤ 3 ∧ -9223372036854775808 ≤ n ∧ n ≤ 9223372036854775807 ∧ (∀ w, Calls Try.prog 12 #[.string q] w fun e w' => e = .returned (.tuple #[.int .i64 n, .int .i64 x]) ∧ Below w.heap.size w w') := by
  rcases pat_cases q with ⟨x, h⟩ | ⟨r, h⟩
  · exact ⟨0, x, by have := h.ne; omega, by have := h.ne; omega, by omega, by omega, fun w => check_bad h w hq⟩
  · have o := h.okay
    have hs := h.size
    have := o.ok.size (i := r.1) (by have := o.top; omega)
    exact ⟨_, 0, by omega, by omega, by omega, by omega, fun w => check_ok h w⟩

set_option maxHeartbeats 1000000 in
set_option maxRecDepth 100000 in
theorem either_bad1 {p : ByteArray} {x : Int} (h : PatE p x) (q line : ByteArray) (all fold : Bool) (w : World) (hp : p.size ≤ maxLen) (hq : q.size ≤ maxLen) :
    Calls Try.prog 5 #[.string p, .string q, .string line, .bool all, .bool fold] w fun e w' => e = .returned (.bool true) ∧ Below w.heap.size w w' := by
  have hx := h.ne
  have hma : Hid (∀ w, Calls _ _ _ w _) := fun w => matching_any w
  have hc : Hid (∀ w, Calls _ _ _ w _) := fun w => check_bad h w hp
  obtain ⟨n, y, y0, y3, n0, n1, hcq⟩ := check_case q hq
  have hcq : Hid (∀ w, Calls _ _ _ w _) := hcq
  clear h
  rcases hx with rfl | rfl <;>
  · go_enter Try.func5, Try.ntmps5
    go_wp2_with (first
      | (go_at_call 17; refine (hma.out _).mono ?_; rintro e w1 ⟨rfl, b1⟩)
      | (go_at_call 12; with_reducible refine (hc.out _).mono ?_; rintro e w2 ⟨rfl, b2⟩; have B2 := b1.trans (b2.mono b1.size); clear hc)
      | (go_at_call 12; with_reducible refine (hcq.out _).mono ?_; rintro e w3 ⟨rfl, b3⟩; have B3 := B2.trans (b3.mono B2.size)))
    go_ret
    exact ⟨rfl, B3⟩
set_option maxHeartbeats 1000000 in
set_option maxRecDepth 100000 in
theorem either_bad2 {p q : ByteArray} {r : Nat × PS} {x : Int} (hp : PatOk p r) (h : PatE q x) (line : ByteArray) (all fold : Bool) (w : World) (hq : q.size ≤ maxLen) :
    Calls Try.prog 5 #[.string p, .string q, .string line, .bool all, .bool fold] w fun e w' => e = .returned (.bool true) ∧ Below w.heap.size w w' := by
  have hx := h.ne
  have hma : Hid (∀ w, Calls _ _ _ w _) := fun w => matching_any w
  have hc : Hid (∀ w, Calls _ _ _ w _) := fun w => check_ok hp w
  have hcq : Hid (∀ w, Calls _ _ _ w _) := fun w => check_bad h w hq
  clear h hp
  rcases hx with rfl | rfl <;>
  · go_enter Try.func5, Try.ntmps5
    go_wp2_with (first
      | (go_at_call 17; refine (hma.out _).mono ?_; rintro e w1 ⟨rfl, b1⟩)
      | (go_at_call 12; with_reducible refine (hc.out _).mono ?_; rintro e w2 ⟨rfl, b2⟩; have B2 := b1.trans (b2.mono b1.size); clear hc)
      | (go_at_call 12; with_reducible refine (hcq.out _).mono ?_; rintro e w3 ⟨rfl, b3⟩; have B3 := B2.trans (b3.mono B2.size)))
    go_ret
    exact ⟨rfl, B3⟩

/-- The two, in brackets, are a pattern or too long or too large a one. -/
theorem eitherT_case {p q : ByteArray} {rp rq : Nat × PS} (hp : PatOk p rp) (hq : PatOk q rq) :
    (PatE (eitherT p q) 3 ∧ (40 < (eitherT p q).size ∨ 60 < sizeAt rp.2.2 rp.1 + sizeAt rq.2.2 rq.1)) ∨
    (PatOk (eitherT p q) (eitherR p q rp rq) ∧ sizeAt (eitherR p q rp rq).2.2 (eitherR p q rp rq).1 = sizeAt rp.2.2 rp.1 + sizeAt rq.2.2 rq.1) := by
  obtain ⟨f1, f2, f3, _⟩ := either_facts hp hq
  by_cases h1 : 40 < (eitherT p q).size
  · exact Or.inl ⟨Or.inl ⟨h1, rfl⟩, Or.inl h1⟩
  · by_cases h2 : 60 < sizeAt rp.2.2 rp.1 + sizeAt rq.2.2 rq.1
    · refine Or.inl ⟨Or.inr ⟨by omega, _, f1, Or.inr ⟨f2, ?_, rfl⟩⟩, Or.inr h2⟩
      rw [f3]; split <;> omega
    · have f4 : sizeAt (eitherR p q rp rq).2.2 (eitherR p q rp rq).1 = sizeAt rp.2.2 rp.1 + sizeAt rq.2.2 rq.1 := by rw [f3, if_neg (by omega)]
      exact Or.inr ⟨⟨by omega, f1, f2, by rw [f4]; omega⟩, f4⟩
theorem sel_either {p q : ByteArray} {rp rq : Nat × PS} (hp : PatOk p rp) (hq : PatOk q rq) (h : PatOk (eitherT p q) (eitherR p q rp rq)) (fold all : Bool) (l : ByteArray) :
    selB (eitherR p q rp rq) fold all l = (selB rp fold all l || selB rq fold all l) := by
  obtain ⟨_, _, _, f4⟩ := either_facts hp hq
  rw [Bool.eq_iff_iff, Bool.or_eq_true]
  cases all with
  | true => rw [sel_whole h, sel_whole hp, sel_whole hq]; exact f4 fold l _ _
  | false =>
    rw [sel_any h, sel_any hp, sel_any hq]
    constructor
    · rintro ⟨i, j, hM⟩
      rcases (f4 fold l i j).1 hM with h1 | h1
      · exact Or.inl ⟨i, j, h1⟩
      · exact Or.inr ⟨i, j, h1⟩
    · rintro (⟨i, j, h1⟩ | ⟨i, j, h1⟩)
      · exact ⟨i, j, (f4 fold l i j).2 (Or.inl h1)⟩
      · exact ⟨i, j, (f4 fold l i j).2 (Or.inr h1)⟩

set_option maxHeartbeats 2000000 in
set_option maxRecDepth 100000 in
theorem either_big {p q : ByteArray} {rp rq : Nat × PS} (hp : PatOk p rp) (hq : PatOk q rq) (hE : PatE (eitherT p q) 3) (hb : 40 < (eitherT p q).size ∨ 60 < sizeAt rp.2.2 rp.1 + sizeAt rq.2.2 rq.1) (line : ByteArray) (all fold : Bool) (w : World) :
    Calls Try.prog 5 #[.string p, .string q, .string line, .bool all, .bool fold] w fun e w' => e = .returned (.bool true) ∧ Below w.heap.size w w' := by
  have hma : Hid (∀ w, Calls _ _ _ w _) := fun w => matching_any w
  have hc : Hid (∀ w, Calls _ _ _ w _) := fun w => check_ok hp w
  have hcq : Hid (∀ w, Calls _ _ _ w _) := fun w => check_ok hq w
  have p40 := hp.small
  have q40 := hq.small
  have p60 := hp.size
  have q60 := hq.size
  have p1 := (hp.okay.ok.size (i := rp.1) (by have := hp.okay.top; omega)).1
  have q1 := (hq.okay.ok.size (i := rq.1) (by have := hq.okay.top; omega)).1
  have hsz : Hid (∀ w, Calls _ _ _ w _) := fun w => sized_no hE (sizeAt rp.2.2 rp.1 + sizeAt rq.2.2 rq.1) (by rw [eitherT_size]; unfold maxLen; omega) hb w
  unfold eitherT bOpen bMid bShut at hsz
  clear hE hb hp hq
  generalize sizeAt rp.2.2 rp.1 = n at *
  generalize sizeAt rq.2.2 rq.1 = m at *
  go_enter Try.func5, Try.ntmps5
  go_wp2_with (first
    | (go_at_call 17; refine (hma.out _).mono ?_; rintro e w1 ⟨rfl, b1⟩)
    | (go_at_call 12; with_reducible refine (hc.out _).mono ?_; rintro e w2 ⟨rfl, b2⟩; have B2 := b1.trans (b2.mono b1.size); clear hc)
    | (go_at_call 12; with_reducible refine (hcq.out _).mono ?_; rintro e w3 ⟨rfl, b3⟩; have B3 := B2.trans (b3.mono B2.size))
    | (go_at_call 18; with_reducible refine (hsz.out _).mono ?_; rintro e w4 ⟨rfl, b4⟩; have B4 := B3.trans (b4.mono B3.size)))
  go_ret
  exact ⟨rfl, B4⟩

end Go.Proofs.Ytjhmkkhnnijigaa
