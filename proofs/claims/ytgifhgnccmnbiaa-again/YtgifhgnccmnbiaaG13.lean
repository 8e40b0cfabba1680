/- The law Within, walked. -/
import Derived.Test.YtgifhgnccmnbiaaG12
set_option linter.unusedVariables false
set_option linter.unusedSimpArgs false
namespace Go.Proofs.Ytgifhgnccmnbiaa
open Go.RowKit Go.IntWalk

/-- A short line. -/
structure ShortOk (w w' : World) (s : ByteArray) : Prop where
  line : IsLine s
  size : s.size ≤ 16
  bel : Below w.heap.size w w'

set_option maxHeartbeats 1000000 in
set_option maxRecDepth 100000 in
theorem short_any (p : ByteArray) (hp : p.size ≤ maxLen) (w : World) :
    Calls Try.prog 22 #[.string p] w fun e w' => ∃ v, e = .returned v ∧ ∃ s, v = .string s ∧ ShortOk w w' s := by
  have hs : Hid (∀ w, Calls _ _ _ w _) := fun w => some_any p 16 (by omega) hp w
  have hsz : (if 16 < p.size then p.extract 0 16 else p).size ≤ 16 := by
    split
    · rw [ByteArray.size_extract]; omega
    · omega
  have hl : Hid (∀ w, Calls _ _ _ w _) := fun w => lines_any (if 16 < p.size then p.extract 0 16 else p) (by omega) w
  generalize (if 16 < p.size then p.extract 0 16 else p) = q at *
  go_enter Try.func22, Try.ntmps22
  go_wp2_with (go_at_call 37; refine (hs.out _).mono ?_; rintro e w1 ⟨rfl, hw1⟩; have hw2 := hw1.symm; subst hw2)
  refine (hl.out _).mono ?_
  rintro e w2 ⟨v, rfl, ls, hI⟩
  have hbel : Below w.heap.size w w2 := hI.k.below (Nat.le_refl _) (by simp)
  cases ls with
  | nil =>
    obtain ⟨va, cap, rfl⟩ : ∃ a cap, v = .slice a 0 cap := by
      rcases hI.own.2 with ⟨h1, h2⟩ | ⟨g, cap, _, h1, _⟩
      · exact ⟨none, 0, h1⟩
      · exact ⟨_, cap, h1⟩
    have hfin : Hid (ShortOk w w2 ⟨#[]⟩) := ⟨⟨Nat.zero_le _, noNl_empty⟩, Nat.zero_le _, hbel⟩
    clear hI hbel
    go_wp2
    go_ret
    exact ⟨_, rfl, _, rfl, hfin.out⟩
  | cons s ls =>
    obtain ⟨g, cap, rfl⟩ := own_form hI.own (by simp)
    have hc := hI.own.cells (g := g) rfl 0 (.string s) rfl
    rw [show (⟨g, 0, none⟩ : Addr).add 0 = ⟨g, 0, none⟩ by simp [Addr.add]] at hc
    obtain ⟨h1, h2⟩ := hI.ok s (List.mem_cons_self ..)
    have hfin : Hid (ShortOk w w2 s) := ⟨⟨by omega, h1⟩, by omega, hbel⟩
    have hlen : (s :: ls).length = ls.length + 1 := rfl
    rw [hlen]
    have hpos : (0 : Int) < ((ls.length + 1 : Nat) : Int) := by omega
    clear hI hbel h1 h2 hlen
    generalize ls.length + 1 = L at *
    go_wp2
    go_ret
    exact ⟨_, rfl, _, rfl, hfin.out⟩

set_option maxHeartbeats 2000000 in
set_option maxRecDepth 100000 in
theorem within_bad {p : ByteArray} {x : Int} (h : PatE p x) (line : ByteArray) (fold : Bool) (w : World) (hp : p.size ≤ maxLen) (hl : line.size ≤ maxLen) :
    Calls Try.prog 8 #[.string p, .string line, .bool fold] w fun e w' => e = .returned (.bool true) ∧ Below w.heap.size w w' := by
  have hx := h.ne
  have hma : Hid (∀ w, Calls _ _ _ w _) := fun w => matching_any w
  have hc : Hid (∀ w, Calls _ _ _ w _) := fun w => check_bad h w hp
  have hs : Hid (∀ w, Calls _ _ _ w _) := fun w => short_any line hl w
  have hm : Hid (∀ s : ByteArray, s.size ≤ 16 → ∀ inv w, Calls _ _ _ w _) := fun s hss inv w => match_bad h inv fold false false s w hp (by unfold maxLen; omega)
  clear h
  rcases hx with rfl | rfl <;>
  · go_enter Try.func8, Try.ntmps8
    go_wp2_with (first
      | (go_at_call 20; refine (hma.out _).mono ?_; rintro e w1 ⟨rfl, b1⟩)
      | (go_at_call 15; refine (hc.out _).mono ?_; rintro e w2 ⟨rfl, b2⟩; have B2 := b1.trans (b2.mono b1.size))
      | (go_at_call 22; refine (hs.out _).mono ?_; rintro e w3 ⟨v, rfl, s, rfl, h3⟩; have B3 := B2.trans (h3.bel.mono B2.size); have z3 := h3.size; clear h3)
      | (go_at_call 18; with_reducible refine (hm.out s z3 false _).mono ?_; rintro e w4 ⟨rfl, b4⟩; have B4 := B3.trans (b4.mono B3.size))
      | (go_at_call 18; with_reducible refine (hm.out s z3 true _).mono ?_; rintro e w5 ⟨rfl, b5⟩; have B5 := B4.trans (b5.mono B4.size)))
    go_ret
    exact ⟨rfl, B5⟩

structure FndA (PP : Nat → Nat → Bool) (n : Nat) (Y : Bool) : Prop where
  out : Y = true ↔ ∃ i j, i ≤ j ∧ j ≤ n ∧ PP i j = true
/-- What was found among the pieces that begin ahead of q; and among those that begin at q and end ahead of k. -/
structure FndO (PP : Nat → Nat → Bool) (n q : Nat) (fv : Value) : Prop where
  out : ∃ b : Bool, fv = .bool b ∧ (b = true ↔ ∃ i j, i < q ∧ i ≤ j ∧ j ≤ n ∧ PP i j = true)
structure FndI (PP : Nat → Nat → Bool) (n q k : Nat) (fv : Value) : Prop where
  out : ∃ b : Bool, fv = .bool b ∧ (b = true ↔ (∃ i j, i < q ∧ i ≤ j ∧ j ≤ n ∧ PP i j = true) ∨ ∃ j, q ≤ j ∧ j < k ∧ PP q j = true)

set_option maxHeartbeats 4000000 in
set_option maxRecDepth 100000 in
theorem within_ok {p : ByteArray} {r : Nat × PS} (h : PatOk p r) (line : ByteArray) (fold : Bool) (w : World) (hl : line.size ≤ maxLen) :
    Calls Try.prog 8 #[.string p, .string line, .bool fold] w fun e w' => e = .returned (.bool true) ∧ Below w.heap.size w w' := by
  have hp : p.size ≤ maxLen := by have := h.small; unfold maxLen; omega
  have hma : Hid (∀ w, Calls _ _ _ w _) := fun w => matching_any w
  have hc : Hid (∀ w, Calls _ _ _ w _) := fun w => check_ok h w
  have hs : Hid (∀ w, Calls _ _ _ w _) := fun w => short_any line hl w
  have hm1 : Hid (∀ s, IsLine s → ∀ w, Calls _ _ _ w _) := fun s hss w => match_ok h false fold false false s w hss
  have hm2 : Hid (∀ s, IsLine s → ∀ w, Calls _ _ _ w _) := fun s hss w => match_ok h true fold false false s w hss
  have ha : Hid (∀ w, Calls _ _ _ w _) := fun w => anchored_any p hp w
  have hb1 : ∀ b : Bool, (b != false) = b := fun b => by cases b <;> rfl
  have hb2 : ∀ b : Bool, (b != true) = !b := fun b => by cases b <;> rfl
  simp only [hb1] at hm1
  simp only [hb2] at hm2
  clear hb1 hb2
  go_enter Try.func8, Try.ntmps8
  go_wp2_with (first
    | (go_at_call 20; refine (hma.out _).mono ?_; rintro e w1 ⟨rfl, b1⟩)
    | (go_at_call 15; refine (hc.out _).mono ?_; rintro e w2 ⟨rfl, b2⟩; have B2 := b1.trans (b2.mono b1.size)))
  refine (hs.out _).mono ?_
  rintro e w3 ⟨v, rfl, s, rfl, h3⟩
  have B3 := B2.trans (h3.bel.mono B2.size)
  have z3 := h3.size
  have l3 : Hid (IsLine s) := h3.line
  clear h3
  have hpc : Hid (∀ i j w, Calls _ _ _ w _) := fun i j w => whole_ok h fold (s.extract i j) (piece_line l3.out i j) w
  have hany : Hid (¬ Anch p p.size → (selB r fold false s = true ↔ ∃ i j, i ≤ j ∧ j ≤ s.size ∧ selB r fold true (s.extract i j) = true)) := fun hn => any_pieces h hn fold s
  have hm1' : Hid (∀ w, Calls _ _ _ w _) := fun w => hm1.out s l3.out w
  have hm2' : Hid (∀ w, Calls _ _ _ w _) := fun w => hm2.out s l3.out w
  clear hm1 hm2 h hma hc hs
  generalize selB r fold false s = Y at *
  have hY : Hid (Y = Y) := rfl
  by_cases hAn : Anch p p.size
  · rw [anchB_true hAn] at ha
    clear hany hpc
    cases Y <;>
    · go_wp2_with (first
        | (go_at_call 18; with_reducible refine (hm1'.out _).mono ?_; rintro e w4 ⟨rfl, b4⟩; have B4 := B3.trans (b4.mono B3.size))
        | (go_at_call 18; with_reducible refine (hm2'.out _).mono ?_; rintro e w5 ⟨rfl, b5⟩; have B5 := B4.trans (b5.mono B4.size))
        | (go_at_call 23; refine (ha.out _).mono ?_; rintro e w6 ⟨rfl, hw6⟩; have hw7 := hw6.symm; subst hw7))
      go_ret
      exact ⟨rfl, B5⟩
  · rw [anchB_false hAn] at ha
    have hany2 : Hid (Y = true ↔ ∃ i j, i ≤ j ∧ j ≤ s.size ∧ selB r fold true (s.extract i j) = true) := hany.out hAn
    clear hany hAn
    generalize hPP : (fun i j => selB r fold true (s.extract i j)) = PP at *
    have hpc2 : Hid (∀ i j w, Calls Try.prog 24 #[.string p, .bool fold, .string (s.extract i j)] w fun e w' => e = .returned (.bool (PP i j)) ∧ Below w.heap.size w w') := by rw [← hPP]; exact hpc.out
    have hany3 : FndA PP s.size Y := ⟨by rw [← hPP]; exact hany2.out⟩
    clear hPP hpc hany2
    cases Y
    · go_wp2_with (first
        | (go_at_call 18; with_reducible refine (hm1'.out _).mono ?_; rintro e w4 ⟨rfl, b4⟩; have B4 := B3.trans (b4.mono B3.size))
        | (go_at_call 18; with_reducible refine (hm2'.out _).mono ?_; rintro e w5 ⟨rfl, b5⟩; have B5 := B4.trans (b5.mono B4.size))
        | (go_at_call 23; refine (ha.out _).mono ?_; rintro e w6 ⟨rfl, hw6⟩; have hw7 := hw6.symm; subst hw7))
      clear hm1' hm2' ha b1 b2 b4 b5
      go_loopw [16, 17] (fun fv iv wr => ∃ (q : Nat), iv = .int .i64 (q : Int) ∧ q ≤ s.size + 1 ∧ FndO PP s.size q fv ∧ Below w.heap.size w wr) (fun _ iv _ => ((s.size : Int) + 1 - intOf iv).toNat)
      case atStart => exact ⟨0, rfl, by omega, ⟨false, rfl, Iff.intro (fun h => by cases h) (fun ⟨i, j, h, _⟩ => absurd h (Nat.not_lt_zero _))⟩, B5⟩
      case round =>
        obtain ⟨q, rfl, hq, ⟨b, rfl, hb⟩, hbel⟩ := hrel
        clear B2 B3 B4 B5
        have hbH : Hid (_ ↔ _) := hb
        clear hb
        by_cases hlt : (q : Int) ≤ (s.size : Int)
        · have hqn : q ≤ s.size := by omega
          have hst : Hid (b = true ↔ (∃ i j, i < q ∧ i ≤ j ∧ j ≤ s.size ∧ PP i j = true) ∨ ∃ j, q ≤ j ∧ j < q ∧ PP q j = true) := by
            constructor
            · intro h; exact Or.inl (hbH.out.1 h)
            · rintro (h | ⟨j, h1, h2, _⟩)
              · exact hbH.out.2 h
              · omega
          clear hbH
          go_wp2_with fail
          go_loopw [16, 18] (fun fv jv wr => ∃ (k : Nat), jv = .int .i64 (k : Int) ∧ q ≤ k ∧ k ≤ s.size + 1 ∧ FndI PP s.size q k fv ∧ Below w.heap.size w wr) (fun _ jv _ => ((s.size : Int) + 1 - intOf jv).toNat)
          case atStart => exact ⟨q, rfl, Nat.le_refl _, by omega, ⟨b, rfl, hst.out⟩, hbel⟩
          case round =>
            clear hst hbel
            obtain ⟨k, rfl, hk1, hk2, ⟨b2, rfl, hb2⟩, hbel2⟩ := hrel
            by_cases hltk : (k : Int) ≤ (s.size : Int)
            · have hkn : k ≤ s.size := by omega
              have hcall : Hid (∀ w, Calls _ _ _ w _) := fun w => hpc2.out q k w
              have hnext : Hid ((b2 || PP q k) = true ↔ (∃ i j, i < q ∧ i ≤ j ∧ j ≤ s.size ∧ PP i j = true) ∨ ∃ j, q ≤ j ∧ j < k + 1 ∧ PP q j = true) := by
                show (b2 || PP q k) = true ↔ _
                rw [Bool.or_eq_true, hb2]
                constructor
                · rintro ((h | ⟨j, h1, h2, h3⟩) | h)
                  · exact Or.inl h
                  · exact Or.inr ⟨j, h1, by omega, h3⟩
                  · exact Or.inr ⟨k, hk1, by omega, h⟩
                · rintro (h | ⟨j, h1, h2, h3⟩)
                  · exact Or.inl (Or.inl h)
                  · by_cases hjk : j = k
                    · subst hjk; exact Or.inr h3
                    · exact Or.inl (Or.inr ⟨j, h1, by omega, h3⟩)
              clear hb2 hpc2
              generalize PP q k = X at hcall hnext
              cases b2 <;> cases X <;>
              · go_wp2_with (go_at_call 24; refine (hcall.out _).mono ?_; rintro e w8 ⟨rfl, b8⟩; have B8 := hbel2.trans (b8.mono hbel2.size))
                refine ⟨⟨k + 1, by go_num, by omega, by omega, ⟨_, rfl, hnext.out⟩, B8⟩, ?_⟩
                simp only [intOf]; omega
            · have hke : k = s.size + 1 := by omega
              have hdone : Hid (b2 = true ↔ ∃ i j, i < q + 1 ∧ i ≤ j ∧ j ≤ s.size ∧ PP i j = true) := by
                show b2 = true ↔ _
                rw [hb2]
                constructor
                · rintro (⟨i, j, h1, h2⟩ | ⟨j, h1, h2, h3⟩)
                  · exact ⟨i, j, by omega, h2⟩
                  · exact ⟨q, j, by omega, h1, by omega, h3⟩
                · rintro ⟨i, j, h1, h2, h3, h4⟩
                  by_cases hiq : i = q
                  · subst hiq; exact Or.inr ⟨j, h2, by omega, h4⟩
                  · exact Or.inl ⟨i, j, by omega, h2, h3, h4⟩
              clear hb2 hpc2 hke
              go_wp2
              refine ⟨⟨q + 1, by go_num, by omega, ⟨b2, rfl, hdone.out⟩, hbel2⟩, ?_⟩
              simp only [intOf]; omega
        · have hbY : b = false := by
            rw [Bool.eq_iff_iff]
            refine hbH.out.trans (Iff.trans ?_ hany3.out.symm)
            constructor
            · rintro ⟨i, j, _, h2⟩; exact ⟨i, j, h2⟩
            · rintro ⟨i, j, h1, h2, h3⟩; exact ⟨i, j, by omega, h1, h2, h3⟩
          subst hbY
          clear hbH hany3 hpc2
          go_wp2
          go_ret
          exact ⟨rfl, hbel⟩
    · go_wp2_with (first
        | (go_at_call 18; with_reducible refine (hm1'.out _).mono ?_; rintro e w4 ⟨rfl, b4⟩; have B4 := B3.trans (b4.mono B3.size))
        | (go_at_call 18; with_reducible refine (hm2'.out _).mono ?_; rintro e w5 ⟨rfl, b5⟩; have B5 := B4.trans (b5.mono B4.size))
        | (go_at_call 23; refine (ha.out _).mono ?_; rintro e w6 ⟨rfl, hw6⟩; have hw7 := hw6.symm; subst hw7))
      clear hm1' hm2' ha b1 b2 b4 b5
      go_loopw [16, 17] (fun fv iv wr => ∃ (q : Nat), iv = .int .i64 (q : Int) ∧ q ≤ s.size + 1 ∧ FndO PP s.size q fv ∧ Below w.heap.size w wr) (fun _ iv _ => ((s.size : Int) + 1 - intOf iv).toNat)
      case atStart => exact ⟨0, rfl, by omega, ⟨false, rfl, Iff.intro (fun h => by cases h) (fun ⟨i, j, h, _⟩ => absurd h (Nat.not_lt_zero _))⟩, B5⟩
      case round =>
        obtain ⟨q, rfl, hq, ⟨b, rfl, hb⟩, hbel⟩ := hrel
        clear B2 B3 B4 B5
        have hbH : Hid (_ ↔ _) := hb
        clear hb
        by_cases hlt : (q : Int) ≤ (s.size : Int)
        · have hqn : q ≤ s.size := by omega
          have hst : Hid (b = true ↔ (∃ i j, i < q ∧ i ≤ j ∧ j ≤ s.size ∧ PP i j = true) ∨ ∃ j, q ≤ j ∧ j < q ∧ PP q j = true) := by
            constructor
            · intro h; exact Or.inl (hbH.out.1 h)
            · rintro (h | ⟨j, h1, h2, _⟩)
              · exact hbH.out.2 h
              · omega
          clear hbH
          go_wp2_with fail
          go_loopw [16, 18] (fun fv jv wr => ∃ (k : Nat), jv = .int .i64 (k : Int) ∧ q ≤ k ∧ k ≤ s.size + 1 ∧ FndI PP s.size q k fv ∧ Below w.heap.size w wr) (fun _ jv _ => ((s.size : Int) + 1 - intOf jv).toNat)
          case atStart => exact ⟨q, rfl, Nat.le_refl _, by omega, ⟨b, rfl, hst.out⟩, hbel⟩
          case round =>
            clear hst hbel
            obtain ⟨k, rfl, hk1, hk2, ⟨b2, rfl, hb2⟩, hbel2⟩ := hrel
            by_cases hltk : (k : Int) ≤ (s.size : Int)
            · have hkn : k ≤ s.size := by omega
              have hcall : Hid (∀ w, Calls _ _ _ w _) := fun w => hpc2.out q k w
              have hnext : Hid ((b2 || PP q k) = true ↔ (∃ i j, i < q ∧ i ≤ j ∧ j ≤ s.size ∧ PP i j = true) ∨ ∃ j, q ≤ j ∧ j < k + 1 ∧ PP q j = true) := by
                show (b2 || PP q k) = true ↔ _
                rw [Bool.or_eq_true, hb2]
                constructor
                · rintro ((h | ⟨j, h1, h2, h3⟩) | h)
                  · exact Or.inl h
                  · exact Or.inr ⟨j, h1, by omega, h3⟩
                  · exact Or.inr ⟨k, hk1, by omega, h⟩
                · rintro (h | ⟨j, h1, h2, h3⟩)
                  · exact Or.inl (Or.inl h)
                  · by_cases hjk : j = k
                    · subst hjk; exact Or.inr h3
                    · exact Or.inl (Or.inr ⟨j, h1, by omega, h3⟩)
              clear hb2 hpc2
              generalize PP q k = X at hcall hnext
              cases b2 <;> cases X <;>
              · go_wp2_with (go_at_call 24; refine (hcall.out _).mono ?_; rintro e w8 ⟨rfl, b8⟩; have B8 := hbel2.trans (b8.mono hbel2.size))
                refine ⟨⟨k + 1, by go_num, by omega, by omega, ⟨_, rfl, hnext.out⟩, B8⟩, ?_⟩
                simp only [intOf]; omega
            · have hke : k = s.size + 1 := by omega
              have hdone : Hid (b2 = true ↔ ∃ i j, i < q + 1 ∧ i ≤ j ∧ j ≤ s.size ∧ PP i j = true) := by
                show b2 = true ↔ _
                rw [hb2]
                constructor
                · rintro (⟨i, j, h1, h2⟩ | ⟨j, h1, h2, h3⟩)
                  · exact ⟨i, j, by omega, h2⟩
                  · exact ⟨q, j, by omega, h1, by omega, h3⟩
                · rintro ⟨i, j, h1, h2, h3, h4⟩
                  by_cases hiq : i = q
                  · subst hiq; exact Or.inr ⟨j, h2, by omega, h4⟩
                  · exact Or.inl ⟨i, j, by omega, h2, h3, h4⟩
              clear hb2 hpc2 hke
              go_wp2
              refine ⟨⟨q + 1, by go_num, by omega, ⟨b2, rfl, hdone.out⟩, hbel2⟩, ?_⟩
              simp only [intOf]; omega
        · have hbY : b = true := by
            rw [Bool.eq_iff_iff]
            refine hbH.out.trans (Iff.trans ?_ hany3.out.symm)
            constructor
            · rintro ⟨i, j, _, h2⟩; exact ⟨i, j, h2⟩
            · rintro ⟨i, j, h1, h2, h3⟩; exact ⟨i, j, by omega, h1, h2, h3⟩
          subst hbY
          clear hbH hany3 hpc2
          go_wp2
          go_ret
          exact ⟨rfl, hbel⟩

end Go.Proofs.Ytgifhgnccmnbiaa

set_option linter.unusedVariables false
set_option linter.unusedSimpArgs false
namespace Go.Proofs.Ytgifhgnccmnbiaa
open Go.RowKit Go.IntWalk

set_option maxHeartbeats 1000000 in
theorem sized_no {s : ByteArray} (h : PatE s 3) (n : Int) (hs : s.size ≤ maxLen) (hb : 40 < s.size ∨ 60 < n) (w : World) :
    Calls Try.prog 21 #[.string s, .int .i64 n] w fun e w' => e = .returned (.tuple #[.bool false, .bool true]) ∧ Below w.heap.size w w' := by
  have hc : Hid (∀ w, Calls _ _ _ w _) := fun w => check_bad h w hs
  unfold maxLen at hs
  clear h
  by_cases h1 : (40 : Int) < (s.size : Int)
  · go_enter Try.func21, Try.ntmps21
    go_wp2_with (go_at_call 15; refine (hc.out _).mono ?_; rintro e w1 ⟨rfl, b1⟩)
    go_ret2
    exact ⟨rfl, b1⟩
  · have h2 : 60 < n := by omega
    have h1 : (s.size : Int) ≤ 40 := by omega
    go_enter Try.func21, Try.ntmps21
    go_wp2_with (go_at_call 15; refine (hc.out _).mono ?_; rintro e w1 ⟨rfl, b1⟩)
    go_ret2
    exact ⟨rfl, b1⟩
set_option maxHeartbeats 1000000 in
theorem sized_yes {s : ByteArray} {r : Nat × PS} (h : PatOk s r) (w : World) :
    Calls Try.prog 21 #[.string s, .int .i64 (sizeAt r.2.2 r.1)] w fun e w' => e = .returned (.tuple #[.bool true, .bool true]) ∧ Below w.heap.size w w' := by
  have hc : Hid (∀ w, Calls _ _ _ w _) := fun w => check_ok h w
  have h1 : (s.size : Int) ≤ 40 := by have := h.small; omega
  have h2 := h.size
  clear h
  generalize sizeAt r.2.2 r.1 = n at *
  go_enter Try.func21, Try.ntmps21
  go_wp2_with (go_at_call 15; refine (hc.out _).mono ?_; rintro e w1 ⟨rfl, b1⟩)
  go_ret2
  exact ⟨rfl, b1⟩

theorem check_case (q : ByteArray) (hq : q.size ≤ maxLen) : ∃ n x : Int, 0 ≤ x ∧ x ≤ 3 ∧ -9223372036854775808 ≤ n ∧ n ≤ 9223372036854775807 ∧ (∀ w, Calls Try.prog 15 #[.string q] w fun e w' => e = .returned (.tuple #[.int .i64 n, .int .i64 x]) ∧ Below w.heap.size w w') := by
  rcases pat_cases q with ⟨x, h⟩ | ⟨r, h⟩
  · exact ⟨0, x, by have := h.ne; omega, by have := h.ne; omega, by omega, by omega, fun w => check_bad h w hq⟩
  · have o := h.okay
    have hs := h.size
    have := o.ok.size (i := r.1) (by have := o.top; omega)
    exact ⟨_, 0, by omega, by omega, by omega, by omega, fun w => check_ok h w⟩

set_option maxHeartbeats 1000000 in
set_option maxRecDepth 100000 in
theorem either_bad1 {p : ByteArray} {x : Int} (h : PatE p x) (q line : ByteArray) (all fold : Bool) (w : World) (hp : p.size ≤ maxLen) (hq : q.size ≤ maxLen) :
    Calls Try.prog 5 #[.string p, .string q, .string line, .bool all, .bool fold] w fun e w' => e = .returned (.bool true) ∧ Below w.heap.size w w' := by
  have hx := h.ne
  have hma : Hid (∀ w, Calls _ _ _ w _) := fun w => matching_any w
  have hc : Hid (∀ w, Calls _ _ _ w _) := fun w => check_bad h w hp
  obtain ⟨n, y, y0, y3, n0, n1, hcq⟩ := check_case q hq
  have hcq : Hid (∀ w, Calls _ _ _ w _) := hcq
  clear h
  rcases hx with rfl | rfl <;>
  · go_enter Try.func5, Try.ntmps5
    go_wp2_with (first
      | (go_at_call 20; refine (hma.out _).mono ?_; rintro e w1 ⟨rfl, b1⟩)
      | (go_at_call 15; with_reducible refine (hc.out _).mono ?_; rintro e w2 ⟨rfl, b2⟩; have B2 := b1.trans (b2.mono b1.size); clear hc)
      | (go_at_call 15; with_reducible refine (hcq.out _).mono ?_; rintro e w3 ⟨rfl, b3⟩; have B3 := B2.trans (b3.mono B2.size)))
    go_ret
    exact ⟨rfl, B3⟩
set_option maxHeartbeats 1000000 in
set_option maxRecDepth 100000 in
theorem either_bad2 {p q : ByteArray} {r : Nat × PS} {x : Int} (hp : PatOk p r) (h : PatE q x) (line : ByteArray) (all fold : Bool) (w : World) (hq : q.size ≤ maxLen) :
    Calls Try.prog 5 #[.string p, .string q, .string line, .bool all, .bool fold] w fun e w' => e = .returned (.bool true) ∧ Below w.heap.size w w' := by
  have hx := h.ne
  have hma : Hid (∀ w, Calls _ _ _ w _) := fun w => matching_any w
  have hc : Hid (∀ w, Calls _ _ _ w _) := fun w => check_ok hp w
  have hcq : Hid (∀ w, Calls _ _ _ w _) := fun w => check_bad h w hq
  clear h hp
  rcases hx with rfl | rfl <;>
  · go_enter Try.func5, Try.ntmps5
    go_wp2_with (first
      | (go_at_call 20; refine (hma.out _).mono ?_; rintro e w1 ⟨rfl, b1⟩)
      | (go_at_call 15; with_reducible refine (hc.out _).mono ?_; rintro e w2 ⟨rfl, b2⟩; have B2 := b1.trans (b2.mono b1.size); clear hc)
      | (go_at_call 15; with_reducible refine (hcq.out _).mono ?_; rintro e w3 ⟨rfl, b3⟩; have B3 := B2.trans (b3.mono B2.size)))
    go_ret
    exact ⟨rfl, B3⟩

/-- The two, in brackets, are a pattern or too long or too large a one. -/
theorem eitherT_case {p q : ByteArray} {rp rq : Nat × PS} (hp : PatOk p rp) (hq : PatOk q rq) :
    (PatE (eitherT p q) 3 ∧ (40 < (eitherT p q).size ∨ 60 < sizeAt rp.2.2 rp.1 + sizeAt rq.2.2 rq.1)) ∨
    (PatOk (eitherT p q) (eitherR p q rp rq) ∧ sizeAt (eitherR p q rp rq).2.2 (eitherR p q rp rq).1 = sizeAt rp.2.2 rp.1 + sizeAt rq.2.2 rq.1) := by
  obtain ⟨f1, f2, f3, _⟩ := either_facts hp hq
  by_cases h1 : 40 < (eitherT p q).size
  · exact Or.inl ⟨Or.inl ⟨h1, rfl⟩, Or.inl h1⟩
  · by_cases h2 : 60 < sizeAt rp.2.2 rp.1 + sizeAt rq.2.2 rq.1
    · refine Or.inl ⟨Or.inr ⟨by omega, _, f1, Or.inr ⟨f2, ?_, rfl⟩⟩, Or.inr h2⟩
      rw [f3]; split <;> omega
    · have f4 : sizeAt (eitherR p q rp rq).2.2 (eitherR p q rp rq).1 = sizeAt rp.2.2 rp.1 + sizeAt rq.2.2 rq.1 := by rw [f3, if_neg (by omega)]
      exact Or.inr ⟨⟨by omega, f1, f2, by rw [f4]; omega⟩, f4⟩
theorem sel_either {p q : ByteArray} {rp rq : Nat × PS} (hp : PatOk p rp) (hq : PatOk q rq) (h : PatOk (eitherT p q) (eitherR p q rp rq)) (fold all : Bool) (l : ByteArray) :
    selB (eitherR p q rp rq) fold all l = (selB rp fold all l || selB rq fold all l) := by
  obtain ⟨_, _, _, f4⟩ := either_facts hp hq
  rw [Bool.eq_iff_iff, Bool.or_eq_true]
  cases all with
  | true => rw [sel_whole h, sel_whole hp, sel_whole hq]; exact f4 fold l _ _
  | false =>
    rw [sel_any h, sel_any hp, sel_any hq]
    constructor
    · rintro ⟨i, j, hM⟩
      rcases (f4 fold l i j).1 hM with h1 | h1
      · exact Or.inl ⟨i, j, h1⟩
      · exact Or.inr ⟨i, j, h1⟩
    · rintro (⟨i, j, h1⟩ | ⟨i, j, h1⟩)
      · exact ⟨i, j, (f4 fold l i j).2 (Or.inl h1)⟩
      · exact ⟨i, j, (f4 fold l i j).2 (Or.inr h1)⟩

set_option maxHeartbeats 2000000 in
set_option maxRecDepth 100000 in
theorem either_big {p q : ByteArray} {rp rq : Nat × PS} (hp : PatOk p rp) (hq : PatOk q rq) (hE : PatE (eitherT p q) 3) (hb : 40 < (eitherT p q).size ∨ 60 < sizeAt rp.2.2 rp.1 + sizeAt rq.2.2 rq.1) (line : ByteArray) (all fold : Bool) (w : World) :
    Calls Try.prog 5 #[.string p, .string q, .string line, .bool all, .bool fold] w fun e w' => e = .returned (.bool true) ∧ Below w.heap.size w w' := by
  have hma : Hid (∀ w, Calls _ _ _ w _) := fun w => matching_any w
  have hc : Hid (∀ w, Calls _ _ _ w _) := fun w => check_ok hp w
  have hcq : Hid (∀ w, Calls _ _ _ w _) := fun w => check_ok hq w
  have p40 := hp.small
  have q40 := hq.small
  have p60 := hp.size
  have q60 := hq.size
  have p1 := (hp.okay.ok.size (i := rp.1) (by have := hp.okay.top; omega)).1
  have q1 := (hq.okay.ok.size (i := rq.1) (by have := hq.okay.top; omega)).1
  have hsz : Hid (∀ w, Calls _ _ _ w _) := fun w => sized_no hE (sizeAt rp.2.2 rp.1 + sizeAt rq.2.2 rq.1) (by rw [eitherT_size]; unfold maxLen; omega) hb w
  unfold eitherT bOpen bMid bShut at hsz
  clear hE hb hp hq
  generalize sizeAt rp.2.2 rp.1 = n at *
  generalize sizeAt rq.2.2 rq.1 = m at *
  go_enter Try.func5, Try.ntmps5
  go_wp2_with (first
    | (go_at_call 20; refine (hma.out _).mono ?_; rintro e w1 ⟨rfl, b1⟩)
    | (go_at_call 15; with_reducible refine (hc.out _).mono ?_; rintro e w2 ⟨rfl, b2⟩; have B2 := b1.trans (b2.mono b1.size); clear hc)
    | (go_at_call 15; with_reducible refine (hcq.out _).mono ?_; rintro e w3 ⟨rfl, b3⟩; have B3 := B2.trans (b3.mono B2.size))
    | (go_at_call 21; with_reducible refine (hsz.out _).mono ?_; rintro e w4 ⟨rfl, b4⟩; have B4 := B3.trans (b4.mono B3.size)))
  go_ret
  exact ⟨rfl, B4⟩

end Go.Proofs.Ytgifhgnccmnbiaa
