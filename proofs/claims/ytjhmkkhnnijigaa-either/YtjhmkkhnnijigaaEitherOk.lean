/- The law Either, walked: both are patterns, and so is what they make together. -/
import Derived.Test.YtjhmkkhnnijigaaEitherWalk
set_option linter.unusedVariables false
set_option linter.unusedSimpArgs false
namespace Go.Proofs.Ytjhmkkhnnijigaa
open Go.RowKit Go.IntWalk

/-- The options in a block of their own. -/
structure OptIn (w : World) (k : Nat) (fold all : Bool) : Prop where
  blk : Blk w k #[.bool false, .bool fold, .bool all, .bool false, .int .i64 0] 28
theorem OptIn.below {w w' : World} {k : Nat} {fold all : Bool} (h : OptIn w k fold all) (b : Below w.heap.size w w') : OptIn w' k fold all :=
  ⟨(b.block k h.blk.lt).trans h.blk⟩

set_option maxHeartbeats 4000000 in
set_option maxRecDepth 100000 in
theorem either_ok {p q : ByteArray} {rp rq : Nat × PS} (hp : PatOk p rp) (hq : PatOk q rq) (hE : PatOk (eitherT p q) (eitherR p q rp rq)) (hn : sizeAt (eitherR p q rp rq).2.2 (eitherR p q rp rq).1 = sizeAt rp.2.2 rp.1 + sizeAt rq.2.2 rq.1) (line : ByteArray) (all fold : Bool) (w : World) (hl : line.size ≤ maxLen) :
    Calls Try.prog 5 #[.string p, .string q, .string line, .bool all, .bool fold] w fun e w' => e = .returned (.bool true) ∧ Below w.heap.size w w' := by
  have hma : Hid (∀ w, Calls _ _ _ w _) := fun w => matching_any w
  have hc : Hid (∀ w, Calls _ _ _ w _) := fun w => check_ok hp w
  have hcq : Hid (∀ w, Calls _ _ _ w _) := fun w => check_ok hq w
  have hs : Hid (∀ w, Calls _ _ _ w _) := fun w => short_any line hl w
  have hb1 : ∀ b : Bool, (b != false) = b := fun b => by cases b <;> rfl
  have hmp : Hid (∀ s, IsLine s → ∀ w, Calls _ _ _ w _) := fun s hss w => match_ok hp false fold all false s w hss
  have hmq : Hid (∀ s, IsLine s → ∀ w, Calls _ _ _ w _) := fun s hss w => match_ok hq false fold all false s w hss
  have hmE : Hid (∀ s, IsLine s → ∀ w, Calls _ _ _ w _) := fun s hss w => match_ok hE false fold all false s w hss
  simp only [hb1] at hmp hmq hmE
  clear hb1
  have hsel : Hid (∀ s, selB (eitherR p q rp rq) fold all s = (selB rp fold all s || selB rq fold all s)) := fun s => sel_either hp hq hE fold all s
  have p40 := hp.small
  have q40 := hq.small
  have p60 := hp.size
  have q60 := hq.size
  have p1 := (hp.okay.ok.size (i := rp.1) (by have := hp.okay.top; omega)).1
  have q1 := (hq.okay.ok.size (i := rq.1) (by have := hq.okay.top; omega)).1
  have hsz : Hid (∀ w, Calls _ _ _ w _) := fun w => sized_yes hE w
  rw [hn] at hsz
  unfold eitherT bOpen bMid bShut at hsz hmE
  clear hE hp hq hn
  generalize sizeAt rp.2.2 rp.1 = n at *
  generalize sizeAt rq.2.2 rq.1 = m at *
  go_enter Try.func5, Try.ntmps5
  go_wp2_with (first
    | (go_at_call 17; refine (hma.out _).mono ?_; rintro e w1 ⟨rfl, b1⟩)
    | (go_at_call 12; with_reducible refine (hc.out _).mono ?_; rintro e w2 ⟨rfl, b2⟩; have B2 := b1.trans (b2.mono b1.size); clear hc)
    | (go_at_call 12; with_reducible refine (hcq.out _).mono ?_; rintro e w3 ⟨rfl, b3⟩; have B3 := B2.trans (b3.mono B2.size); clear hcq)
    | (go_at_call 18; with_reducible refine (hsz.out _).mono ?_; rintro e w4 ⟨rfl, b4⟩; have B4 := B3.trans (b4.mono B3.size); clear hsz))
  refine (hs.out _).mono ?_
  rintro e w5 ⟨v, rfl, s, rfl, h5⟩
  have O4 : OptIn (w4.alloc (.cells #[.bool false, .bool fold, .bool all, .bool false, .int .i64 0] 28)) w4.heap.size fold all := ⟨Blk.new w4 _ _⟩
  have O5 := O4.below h5.bel
  have B5 : Below w.heap.size w w5 := (B4.alloc B4.size _).trans (h5.bel.mono (by have := B4.size; simp; omega))
  have l5 : Hid (IsLine s) := h5.line
  clear h5 hs O4
  have c0 := O5.blk.cell 0
  have c1 := O5.blk.cell 1
  have c2 := O5.blk.cell 2
  have c3 := O5.blk.cell 3
  have c4 := O5.blk.cell 4
  have e := hsel.out s
  have hmp' : Hid (∀ w, Calls _ _ _ w _) := fun w => hmp.out s l5.out w
  have hmq' : Hid (∀ w, Calls _ _ _ w _) := fun w => hmq.out s l5.out w
  have hmE' : Hid (∀ w, Calls _ _ _ w _) := fun w => hmE.out s l5.out w
  rw [e] at hmE'
  clear hmp hmq hmE hsel e
  generalize selB rp fold all s = X at *
  generalize selB rq fold all s = Y at *
  cases X <;> cases Y <;>
  · go_wp2_with (first
      | (go_at_call 15
         with_reducible refine (hmp'.out _).mono ?_
         rintro e w6 ⟨rfl, b6⟩
         have B6 := B5.trans (b6.mono B5.size)
         have O6 := O5.below b6
         clear c0 c1 c2 c3 c4
         have c0 := O6.blk.cell 0
         have c1 := O6.blk.cell 1
         have c2 := O6.blk.cell 2
         have c3 := O6.blk.cell 3
         have c4 := O6.blk.cell 4
         clear hmp')
      | (go_at_call 15
         with_reducible refine (hmq'.out _).mono ?_
         rintro e w7 ⟨rfl, b7⟩
         have B7 := B6.trans (b7.mono B6.size)
         have O7 := O6.below b7
         clear c0 c1 c2 c3 c4
         have c0 := O7.blk.cell 0
         have c1 := O7.blk.cell 1
         have c2 := O7.blk.cell 2
         have c3 := O7.blk.cell 3
         have c4 := O7.blk.cell 4
         clear hmq')
      | (go_at_call 15
         with_reducible refine (hmE'.out _).mono ?_
         rintro e w8 ⟨rfl, b8⟩
         have B8 := B7.trans (b8.mono B7.size)))
    go_ret
    exact ⟨rfl, B8⟩

theorem either_law (p q line : ByteArray) (all fold : Bool) (w : World) (hp : p.size ≤ maxLen) (hq : q.size ≤ maxLen) (hl : line.size ≤ maxLen) :
    Calls Try.prog 5 #[.string p, .string q, .string line, .bool all, .bool fold] w fun e w' => e = .returned (.bool true) ∧ Below w.heap.size w w' := by
  rcases pat_cases p with ⟨x, h⟩ | ⟨rp, h1⟩
  · exact either_bad1 h q line all fold w hp hq
  · rcases pat_cases q with ⟨x, h⟩ | ⟨rq, h2⟩
    · exact either_bad2 h1 h line all fold w hq
    · rcases eitherT_case h1 h2 with ⟨h3, h4⟩ | ⟨h3, h4⟩
      · exact either_big h1 h2 h3 h4 line all fold w
      · exact either_ok h1 h2 h3 h4 line all fold w hl

end Go.Proofs.Ytjhmkkhnnijigaa
