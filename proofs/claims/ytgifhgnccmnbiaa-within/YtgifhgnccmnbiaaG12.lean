/- Pieces of a line, for patterns in which no ^ and no $ stands. No Go in it. -/
import Derived.Test.YtgifhgnccmnbiaaG11
set_option linter.unusedVariables false
set_option linter.unusedSimpArgs false
namespace Go.Proofs.Ytgifhgnccmnbiaa

def NoAnch (ns : List AN) : Prop := ∀ n, n ∈ ns → n.kind ≠ 2 ∧ n.kind ≠ 3
theorem noAnch_add {ns : List AN} {n : AN} {s : RS} (h : NoAnch ns) (hn : n.kind ≠ 2 ∧ n.kind ≠ 3) : NoAnch (addS n (s, ns)).2.2 := fun m hm => by
  simp only [addS, List.mem_append, List.mem_singleton] at hm
  rcases hm with hm | rfl
  · exact h m hm
  · exact hn
theorem D.noAnch {t : ByteArray} (ht : ¬ Anch t t.size) {tag cur : Nat} {st : PS} {r : Nat × PS} (h : D t tag cur st r) : NoAnch st.2 → NoAnch r.2.2 := by
  induction h with
  | pattern _ _ a b => exact fun h => b (a h)
  | empty he => exact fun h => noAnch_add h (by simp)
  | branch he _ _ a b => exact fun h => b (a h)
  | piece _ _ a b => exact fun h => b (a h)
  | group he _ a => exact fun h => by rw [close_len]; exact a h
  | list he => exact fun h => noAnch_add h (by simp)
  | @plain cur st h1 h2 =>
    intro h
    have key : ∀ c : Int, (c = 94 ∨ c = 36) → (nextS t st.1).1 ≠ c := fun c hc he => by
      unfold nextS at he
      split at he
      · simp only [] at he; omega
      · rename_i hp
        have hlt : st.1.1 < t.size := pk_some (by simp only [] at he; omega)
        rw [pk_lt hlt] at he
        exact ht ⟨st.1.1, hlt, hlt, by simp only [] at he; omega⟩
    have k1 := key 94 (Or.inl rfl)
    have k2 := key 36 (Or.inr rfl)
    unfold plainS bytesS
    repeat' split
    all_goals first
      | exact noAnch_add h (by simp)
      | (exfalso; exact k1 (by assumption))
      | (exfalso; exact k2 (by assumption))
  | or he _ _ a b => exact fun h => b (noAnch_add (a h) (by simp))
  | orEnd he => exact fun h => h
  | and he _ _ a b => exact fun h => b (noAnch_add (a h) (by simp))
  | andEnd he => exact fun h => h
  | rep he _ a => exact fun h => a (noAnch_add h (by simp))
  | repEnd he => exact fun h => h
theorem pat_noAnch {t : ByteArray} {r : Nat × PS} (h : PatOk t r) (ht : ¬ Anch t t.size) : NoAnch r.2.2 :=
  (h.ev.deriv (Nat.zero_le _)).noAnch ht (fun n hn => by simp [st0] at hn)

theorem piece_size {s : ByteArray} {a b : Nat} (hb : b ≤ s.size) : (s.extract a b).size = b - a := by rw [ByteArray.size_extract]; omega
theorem tr_piece {ns : List AN} (hn : NoAnch ns) (fold : Bool) (s : ByteArray) {a b : Nat} (hab : a ≤ b) (hb : b ≤ s.size) : ∀ (u : List Nat) (i j : Nat), i ≤ b - a → (Tr ns fold (s.extract a b) u i j ↔ Tr ns fold s u (a + i) (a + j) ∧ a + j ≤ b)
  | [], i, j, hi => by
    simp only [Tr]
    rw [piece_size hb]
    constructor
    · rintro ⟨rfl, h⟩; exact ⟨⟨rfl, by omega⟩, by omega⟩
    · rintro ⟨⟨h1, h2⟩, h3⟩; exact ⟨by omega, hi⟩
  | k :: u, i, j, hi => by
    simp only [Tr]
    constructor
    · rintro ⟨m, ⟨n, hk, hg⟩, h2⟩
      have hnn := hn n (List.mem_of_getElem? hk)
      rcases hg with ⟨h1, rfl, h3, h4⟩ | ⟨h1, _⟩ | ⟨h1, _⟩
      · have hsz := piece_size (a := a) hb
        obtain ⟨h5, h6⟩ := (tr_piece hn fold s hab hb u (i + 1) j (by omega)).1 h2
        refine ⟨⟨a + (i + 1), ⟨n, hk, Or.inl ⟨h1, by omega, by omega, ?_⟩⟩, h5⟩, h6⟩
        rw [ByteArray.getElem_extract] at h4
        exact h4
      · exact absurd h1 hnn.1
      · exact absurd h1 hnn.2
    · rintro ⟨⟨m, ⟨n, hk, hg⟩, h2⟩, h3⟩
      have hnn := hn n (List.mem_of_getElem? hk)
      rcases hg with ⟨h1, rfl, h4, h5⟩ | ⟨h1, _⟩ | ⟨h1, _⟩
      · have hle := h2.le
        have hsz := piece_size (a := a) hb
        refine ⟨i + 1, ⟨n, hk, Or.inl ⟨h1, rfl, by omega, ?_⟩⟩, (tr_piece hn fold s hab hb u (i + 1) j (by omega)).2 ⟨h2, h3⟩⟩
        rw [ByteArray.getElem_extract]
        exact h5
      · exact absurd h1 hnn.1
      · exact absurd h1 hnn.2

theorem mat_piece {ns : List AN} (hn : NoAnch ns) (fold : Bool) (s : ByteArray) (k : Nat) {a b : Nat} (hab : a ≤ b) (hb : b ≤ s.size) : Mat ns fold (s.extract a b) k 0 (s.extract a b).size ↔ Mat ns fold s k a b := by
  unfold Mat
  rw [piece_size hb]
  constructor
  · rintro ⟨u, h1, h2⟩
    have := ((tr_piece hn fold s hab hb u 0 (b - a) (Nat.zero_le _)).1 h2).1
    rw [show a + (b - a) = b by omega] at this
    exact ⟨u, h1, this⟩
  · rintro ⟨u, h1, h2⟩
    refine ⟨u, h1, (tr_piece hn fold s hab hb u 0 (b - a) (Nat.zero_le _)).2 ⟨?_, by omega⟩⟩
    rw [show a + (b - a) = b by omega]
    exact h2
theorem piece_line {s : ByteArray} (h : IsLine s) (a b : Nat) : IsLine (s.extract a b) := by
  have h1 := h.1
  refine ⟨by rw [ByteArray.size_extract]; omega, fun i hi hs => ?_⟩
  have h2 : i < (s.extract a b).size := hs
  rw [ByteArray.size_extract] at h2
  rw [ByteArray.getElem_extract]
  exact h.2 (a + i) (by omega) (by omega)

/-- Somewhere in the line means: some piece of it, whole. -/
theorem any_pieces {t : ByteArray} {r : Nat × PS} (h : PatOk t r) (ht : ¬ Anch t t.size) (fold : Bool) (s : ByteArray) :
    selB r fold false s = true ↔ ∃ i j, i ≤ j ∧ j ≤ s.size ∧ selB r fold true (s.extract i j) = true := by
  have hn := pat_noAnch h ht
  rw [sel_any h]
  constructor
  · rintro ⟨i, j, hM⟩
    obtain ⟨u, h1, h2⟩ := hM
    have hle := h2.le
    exact ⟨i, j, by omega, by omega, (sel_whole h fold _).2 ((mat_piece hn fold s r.1 (by omega) (by omega)).2 ⟨u, h1, h2⟩)⟩
  · rintro ⟨i, j, h1, h2, h3⟩
    exact ⟨i, j, (mat_piece hn fold s r.1 h1 h2).1 ((sel_whole h fold _).1 h3)⟩

end Go.Proofs.Ytgifhgnccmnbiaa

set_option linter.unusedVariables false
set_option linter.unusedSimpArgs false
namespace Go.Proofs.Ytgifhgnccmnbiaa
open Go.RowKit Go.IntWalk

/-- A short line. -/
structure ShortOk (w w' : World) (s : ByteArray) : Prop where
  line : IsLine s
  size : s.size ≤ 16
  bel : Below w.heap.size w w'

set_option maxHeartbeats 1000000 in
set_option maxRecDepth 100000 in
theorem short_any (p : ByteArray) (hp : p.size ≤ maxLen) (w : World) :
    Calls Try.prog 22 #[.string p] w fun e w' => ∃ v, e = .returned v ∧ ∃ s, v = .string s ∧ ShortOk w w' s := by
  have hs : Hid (∀ w, Calls _ _ _ w _) := fun w => some_any p 16 (by omega) hp w
  have hsz : (if 16 < p.size then p.extract 0 16 else p).size ≤ 16 := by
    split
    · rw [ByteArray.size_extract]; omega
    · omega
  have hl : Hid (∀ w, Calls _ _ _ w _) := fun w => lines_any (if 16 < p.size then p.extract 0 16 else p) (by omega) w
  generalize (if 16 < p.size then p.extract 0 16 else p) = q at *
  go_enter Try.func22, Try.ntmps22
  go_wp2_with (go_at_call 37; refine (hs.out _).mono ?_; rintro e w1 ⟨rfl, hw1⟩; have hw2 := hw1.symm; subst hw2)
  refine (hl.out _).mono ?_
  rintro e w2 ⟨v, rfl, ls, hI⟩
  have hbel : Below w.heap.size w w2 := hI.k.below (Nat.le_refl _) (by simp)
  cases ls with
  | nil =>
    obtain ⟨va, cap, rfl⟩ : ∃ a cap, v = .slice a 0 cap := by
      rcases hI.own.2 with ⟨h1, h2⟩ | ⟨g, cap, _, h1, _⟩
      · exact ⟨none, 0, h1⟩
      · exact ⟨_, cap, h1⟩
    have hfin : Hid (ShortOk w w2 ⟨#[]⟩) := ⟨⟨Nat.zero_le _, noNl_empty⟩, Nat.zero_le _, hbel⟩
    clear hI hbel
    go_wp2
    go_ret
    exact ⟨_, rfl, _, rfl, hfin.out⟩
  | cons s ls =>
    obtain ⟨g, cap, rfl⟩ := own_form hI.own (by simp)
    have hc := hI.own.cells (g := g) rfl 0 (.string s) rfl
    rw [show (⟨g, 0, none⟩ : Addr).add 0 = ⟨g, 0, none⟩ by simp [Addr.add]] at hc
    obtain ⟨h1, h2⟩ := hI.ok s (List.mem_cons_self ..)
    have hfin : Hid (ShortOk w w2 s) := ⟨⟨by omega, h1⟩, by omega, hbel⟩
    have hlen : (s :: ls).length = ls.length + 1 := rfl
    rw [hlen]
    have hpos : (0 : Int) < ((ls.length + 1 : Nat) : Int) := by omega
    clear hI hbel h1 h2 hlen
    generalize ls.length + 1 = L at *
    go_wp2
    go_ret
    exact ⟨_, rfl, _, rfl, hfin.out⟩

set_option maxHeartbeats 2000000 in
set_option maxRecDepth 100000 in
theorem within_bad {p : ByteArray} {x : Int} (h : PatE p x) (line : ByteArray) (fold : Bool) (w : World) (hp : p.size ≤ maxLen) (hl : line.size ≤ maxLen) :
    Calls Try.prog 8 #[.string p, .string line, .bool fold] w fun e w' => e = .returned (.bool true) ∧ Below w.heap.size w w' := by
  have hx := h.ne
  have hma : Hid (∀ w, Calls _ _ _ w _) := fun w => matching_any w
  have hc : Hid (∀ w, Calls _ _ _ w _) := fun w => check_bad h w hp
  have hs : Hid (∀ w, Calls _ _ _ w _) := fun w => short_any line hl w
  have hm : Hid (∀ s : ByteArray, s.size ≤ 16 → ∀ inv w, Calls _ _ _ w _) := fun s hss inv w => match_bad h inv fold false false s w hp (by unfold maxLen; omega)
  clear h
  rcases hx with rfl | rfl <;>
  · go_enter Try.func8, Try.ntmps8
    go_wp2_with (first
      | (go_at_call 20; refine (hma.out _).mono ?_; rintro e w1 ⟨rfl, b1⟩)
      | (go_at_call 15; refine (hc.out _).mono ?_; rintro e w2 ⟨rfl, b2⟩; have B2 := b1.trans (b2.mono b1.size))
      | (go_at_call 22; refine (hs.out _).mono ?_; rintro e w3 ⟨v, rfl, s, rfl, h3⟩; have B3 := B2.trans (h3.bel.mono B2.size); have z3 := h3.size; clear h3)
      | (go_at_call 18; with_reducible refine (hm.out s z3 false _).mono ?_; rintro e w4 ⟨rfl, b4⟩; have B4 := B3.trans (b4.mono B3.size))
      | (go_at_call 18; with_reducible refine (hm.out s z3 true _).mono ?_; rintro e w5 ⟨rfl, b5⟩; have B5 := B4.trans (b5.mono B4.size)))
    go_ret
    exact ⟨rfl, B5⟩

structure FndA (PP : Nat → Nat → Bool) (n : Nat) (Y : Bool) : Prop where
  out : Y = true ↔ ∃ i j, i ≤ j ∧ j ≤ n ∧ PP i j = true
/-- What was found among the pieces that begin ahead of q; and among those that begin at q and end ahead of k. -/
structure FndO (PP : Nat → Nat → Bool) (n q : Nat) (fv : Value) : Prop where
  out : ∃ b : Bool, fv = .bool b ∧ (b = true ↔ ∃ i j, i < q ∧ i ≤ j ∧ j ≤ n ∧ PP i j = true)
structure FndI (PP : Nat → Nat → Bool) (n q k : Nat) (fv : Value) : Prop where
  out : ∃ b : Bool, fv = .bool b ∧ (b = true ↔ (∃ i j, i < q ∧ i ≤ j ∧ j ≤ n ∧ PP i j = true) ∨ ∃ j, q ≤ j ∧ j < k ∧ PP q j = true)

set_option maxHeartbeats 4000000 in
set_option maxRecDepth 100000 in
theorem within_ok {p : ByteArray} {r : Nat × PS} (h : PatOk p r) (line : ByteArray) (fold : Bool) (w : World) (hl : line.size ≤ maxLen) :
    Calls Try.prog 8 #[.string p, .string line, .bool fold] w fun e w' => e = .returned (.bool true) ∧ Below w.heap.size w w' := by
  have hp : p.size ≤ maxLen := by have := h.small; unfold maxLen; omega
  have hma : Hid (∀ w, Calls _ _ _ w _) := fun w => matching_any w
  have hc : Hid (∀ w, Calls _ _ _ w _) := fun w => check_ok h w
  have hs : Hid (∀ w, Calls _ _ _ w _) := fun w => short_any line hl w
  have hm1 : Hid (∀ s, IsLine s → ∀ w, Calls _ _ _ w _) := fun s hss w => match_ok h false fold false false s w hss
  have hm2 : Hid (∀ s, IsLine s → ∀ w, Calls _ _ _ w _) := fun s hss w => match_ok h true fold false false s w hss
  have ha : Hid (∀ w, Calls _ _ _ w _) := fun w => anchored_any p hp w
  have hb1 : ∀ b : Bool, (b != false) = b := fun b => by cases b <;> rfl
  have hb2 : ∀ b : Bool, (b != true) = !b := fun b => by cases b <;> rfl
  simp only [hb1] at hm1
  simp only [hb2] at hm2
  clear hb1 hb2
  go_enter Try.func8, Try.ntmps8
  go_wp2_with (first
    | (go_at_call 20; refine (hma.out _).mono ?_; rintro e w1 ⟨rfl, b1⟩)
    | (go_at_call 15; refine (hc.out _).mono ?_; rintro e w2 ⟨rfl, b2⟩; have B2 := b1.trans (b2.mono b1.size)))
  refine (hs.out _).mono ?_
  rintro e w3 ⟨v, rfl, s, rfl, h3⟩
  have B3 := B2.trans (h3.bel.mono B2.size)
  have z3 := h3.size
  have l3 : Hid (IsLine s) := h3.line
  clear h3
  have hpc : Hid (∀ i j w, Calls _ _ _ w _) := fun i j w => whole_ok h fold (s.extract i j) (piece_line l3.out i j) w
  have hany : Hid (¬ Anch p p.size → (selB r fold false s = true ↔ ∃ i j, i ≤ j ∧ j ≤ s.size ∧ selB r fold true (s.extract i j) = true)) := fun hn => any_pieces h hn fold s
  have hm1' : Hid (∀ w, Calls _ _ _ w _) := fun w => hm1.out s l3.out w
  have hm2' : Hid (∀ w, Calls _ _ _ w _) := fun w => hm2.out s l3.out w
  clear hm1 hm2 h hma hc hs
  generalize selB r fold false s = Y at *
  have hY : Hid (Y = Y) := rfl
  by_cases hAn : Anch p p.size
  · rw [anchB_true hAn] at ha
    clear hany hpc
    cases Y <;>
    · go_wp2_with (first
        | (go_at_call 18; with_reducible refine (hm1'.out _).mono ?_; rintro e w4 ⟨rfl, b4⟩; have B4 := B3.trans (b4.mono B3.size))
        | (go_at_call 18; with_reducible refine (hm2'.out _).mono ?_; rintro e w5 ⟨rfl, b5⟩; have B5 := B4.trans (b5.mono B4.size))
        | (go_at_call 23; refine (ha.out _).mono ?_; rintro e w6 ⟨rfl, hw6⟩; have hw7 := hw6.symm; subst hw7))
      go_ret
      exact ⟨rfl, B5⟩
  · rw [anchB_false hAn] at ha
    have hany2 : Hid (Y = true ↔ ∃ i j, i ≤ j ∧ j ≤ s.size ∧ selB r fold true (s.extract i j) = true) := hany.out hAn
    clear hany hAn
    generalize hPP : (fun i j => selB r fold true (s.extract i j)) = PP at *
    have hpc2 : Hid (∀ i j w, Calls Try.prog 24 #[.string p, .bool fold, .string (s.extract i j)] w fun e w' => e = .returned (.bool (PP i j)) ∧ Below w.heap.size w w') := by rw [← hPP]; exact hpc.out
    have hany3 : FndA PP s.size Y := ⟨by rw [← hPP]; exact hany2.out⟩
    clear hPP hpc hany2
    cases Y
    · go_wp2_with (first
        | (go_at_call 18; with_reducible refine (hm1'.out _).mono ?_; rintro e w4 ⟨rfl, b4⟩; have B4 := B3.trans (b4.mono B3.size))
        | (go_at_call 18; with_reducible refine (hm2'.out _).mono ?_; rintro e w5 ⟨rfl, b5⟩; have B5 := B4.trans (b5.mono B4.size))
        | (go_at_call 23; refine (ha.out _).mono ?_; rintro e w6 ⟨rfl, hw6⟩; have hw7 := hw6.symm; subst hw7))
      clear hm1' hm2' ha b1 b2 b4 b5
      go_loopw [16, 17] (fun fv iv wr => ∃ (q : Nat), iv = .int .i64 (q : Int) ∧ q ≤ s.size + 1 ∧ FndO PP s.size q fv ∧ Below w.heap.size w wr) (fun _ iv _ => ((s.size : Int) + 1 - intOf iv).toNat)
      case atStart => exact ⟨0, rfl, by omega, ⟨false, rfl, Iff.intro (fun h => by cases h) (fun ⟨i, j, h, _⟩ => absurd h (Nat.not_lt_zero _))⟩, B5⟩
      case round =>
        obtain ⟨q, rfl, hq, ⟨b, rfl, hb⟩, hbel⟩ := hrel
        clear B2 B3 B4 B5
        have hbH : Hid (_ ↔ _) := hb
        clear hb
        by_cases hlt : (q : Int) ≤ (s.size : Int)
        · have hqn : q ≤ s.size := by omega
          have hst : Hid (b = true ↔ (∃ i j, i < q ∧ i ≤ j ∧ j ≤ s.size ∧ PP i j = true) ∨ ∃ j, q ≤ j ∧ j < q ∧ PP q j = true) := by
            constructor
            · intro h; exact Or.inl (hbH.out.1 h)
            · rintro (h | ⟨j, h1, h2, _⟩)
              · exact hbH.out.2 h
              · omega
          clear hbH
          go_wp2_with fail
          go_loopw [16, 18] (fun fv jv wr => ∃ (k : Nat), jv = .int .i64 (k : Int) ∧ q ≤ k ∧ k ≤ s.size + 1 ∧ FndI PP s.size q k fv ∧ Below w.heap.size w wr) (fun _ jv _ => ((s.size : Int) + 1 - intOf jv).toNat)
          case atStart => exact ⟨q, rfl, Nat.le_refl _, by omega, ⟨b, rfl, hst.out⟩, hbel⟩
          case round =>
            clear hst hbel
            obtain ⟨k, rfl, hk1, hk2, ⟨b2, rfl, hb2⟩, hbel2⟩ := hrel
            by_cases hltk : (k : Int) ≤ (s.size : Int)
            · have hkn : k ≤ s.size := by omega
              have hcall : Hid (∀ w, Calls _ _ _ w _) := fun w => hpc2.out q k w
              have hnext : Hid ((b2 || PP q k) = true ↔ (∃ i j, i < q ∧ i ≤ j ∧ j ≤ s.size ∧ PP i j = true) ∨ ∃ j, q ≤ j ∧ j < k + 1 ∧ PP q j = true) := by
                show (b2 || PP q k) = true ↔ _
                rw [Bool.or_eq_true, hb2]
                constructor
                · rintro ((h | ⟨j, h1, h2, h3⟩) | h)
                  · exact Or.inl h
                  · exact Or.inr ⟨j, h1, by omega, h3⟩
                  · exact Or.inr ⟨k, hk1, by omega, h⟩
                · rintro (h | ⟨j, h1, h2, h3⟩)
                  · exact Or.inl (Or.inl h)
                  · by_cases hjk : j = k
                    · subst hjk; exact Or.inr h3
                    · exact Or.inl (Or.inr ⟨j, h1, by omega, h3⟩)
              clear hb2 hpc2
              generalize PP q k = X at hcall hnext
              cases b2 <;> cases X <;>
              · go_wp2_with (go_at_call 24; refine (hcall.out _).mono ?_; rintro e w8 ⟨rfl, b8⟩; have B8 := hbel2.trans (b8.mono hbel2.size))
                refine ⟨⟨k + 1, by go_num, by omega, by omega, ⟨_, rfl, hnext.out⟩, B8⟩, ?_⟩
                simp only [intOf]; omega
            · have hke : k = s.size + 1 := by omega
              have hdone : Hid (b2 = true ↔ ∃ i j, i < q + 1 ∧ i ≤ j ∧ j ≤ s.size ∧ PP i j = true) := by
                show b2 = true ↔ _
                rw [hb2]
                constructor
                · rintro (⟨i, j, h1, h2⟩ | ⟨j, h1, h2, h3⟩)
                  · exact ⟨i, j, by omega, h2⟩
                  · exact ⟨q, j, by omega, h1, by omega, h3⟩
                · rintro ⟨i, j, h1, h2, h3, h4⟩
                  by_cases hiq : i = q
                  · subst hiq; exact Or.inr ⟨j, h2, by omega, h4⟩
                  · exact Or.inl ⟨i, j, by omega, h2, h3, h4⟩
              clear hb2 hpc2 hke
              go_wp2
              refine ⟨⟨q + 1, by go_num, by omega, ⟨b2, rfl, hdone.out⟩, hbel2⟩, ?_⟩
              simp only [intOf]; omega
        · have hbY : b = false := by
            rw [Bool.eq_iff_iff]
            refine hbH.out.trans (Iff.trans ?_ hany3.out.symm)
            constructor
            · rintro ⟨i, j, _, h2⟩; exact ⟨i, j, h2⟩
            · rintro ⟨i, j, h1, h2, h3⟩; exact ⟨i, j, by omega, h1, h2, h3⟩
          subst hbY
          clear hbH hany3 hpc2
          go_wp2
          go_ret
          exact ⟨rfl, hbel⟩
    · go_wp2_with (first
        | (go_at_call 18; with_reducible refine (hm1'.out _).mono ?_; rintro e w4 ⟨rfl, b4⟩; have B4 := B3.trans (b4.mono B3.size))
        | (go_at_call 18; with_reducible refine (hm2'.out _).mono ?_; rintro e w5 ⟨rfl, b5⟩; have B5 := B4.trans (b5.mono B4.size))
        | (go_at_call 23; refine (ha.out _).mono ?_; rintro e w6 ⟨rfl, hw6⟩; have hw7 := hw6.symm; subst hw7))
      clear hm1' hm2' ha b1 b2 b4 b5
      go_loopw [16, 17] (fun fv iv wr => ∃ (q : Nat), iv = .int .i64 (q : Int) ∧ q ≤ s.size + 1 ∧ FndO PP s.size q fv ∧ Below w.heap.size w wr) (fun _ iv _ => ((s.size : Int) + 1 - intOf iv).toNat)
      case atStart => exact ⟨0, rfl, by omega, ⟨false, rfl, Iff.intro (fun h => by cases h) (fun ⟨i, j, h, _⟩ => absurd h (Nat.not_lt_zero _))⟩, B5⟩
      case round =>
        obtain ⟨q, rfl, hq, ⟨b, rfl, hb⟩, hbel⟩ := hrel
        clear B2 B3 B4 B5
        have hbH : Hid (_ ↔ _) := hb
        clear hb
        by_cases hlt : (q : Int) ≤ (s.size : Int)
        · have hqn : q ≤ s.size := by omega
          have hst : Hid (b = true ↔ (∃ i j, i < q ∧ i ≤ j ∧ j ≤ s.size ∧ PP i j = true) ∨ ∃ j, q ≤ j ∧ j < q ∧ PP q j = true) := by
            constructor
            · intro h; exact Or.inl (hbH.out.1 h)
            · rintro (h | ⟨j, h1, h2, _⟩)
              · exact hbH.out.2 h
              · omega
          clear hbH
          go_wp2_with fail
          go_loopw [16, 18] (fun fv jv wr => ∃ (k : Nat), jv = .int .i64 (k : Int) ∧ q ≤ k ∧ k ≤ s.size + 1 ∧ FndI PP s.size q k fv ∧ Below w.heap.size w wr) (fun _ jv _ => ((s.size : Int) + 1 - intOf jv).toNat)
          case atStart => exact ⟨q, rfl, Nat.le_refl _, by omega, ⟨b, rfl, hst.out⟩, hbel⟩
          case round =>
            clear hst hbel
            obtain ⟨k, rfl, hk1, hk2, ⟨b2, rfl, hb2⟩, hbel2⟩ := hrel
            by_cases hltk : (k : Int) ≤ (s.size : Int)
            · have hkn : k ≤ s.size := by omega
              have hcall : Hid (∀ w, Calls _ _ _ w _) := fun w => hpc2.out q k w
              have hnext : Hid ((b2 || PP q k) = true ↔ (∃ i j, i < q ∧ i ≤ j ∧ j ≤ s.size ∧ PP i j = true) ∨ ∃ j, q ≤ j ∧ j < k + 1 ∧ PP q j = true) := by
                show (b2 || PP q k) = true ↔ _
                rw [Bool.or_eq_true, hb2]
                constructor
                · rintro ((h | ⟨j, h1, h2, h3⟩) | h)
                  · exact Or.inl h
                  · exact Or.inr ⟨j, h1, by omega, h3⟩
                  · exact Or.inr ⟨k, hk1, by omega, h⟩
                · rintro (h | ⟨j, h1, h2, h3⟩)
                  · exact Or.inl (Or.inl h)
                  · by_cases hjk : j = k
                    · subst hjk; exact Or.inr h3
                    · exact Or.inl (Or.inr ⟨j, h1, by omega, h3⟩)
              clear hb2 hpc2
              generalize PP q k = X at hcall hnext
              cases b2 <;> cases X <;>
              · go_wp2_with (go_at_call 24; refine (hcall.out _).mono ?_; rintro e w8 ⟨rfl, b8⟩; have B8 := hbel2.trans (b8.mono hbel2.size))
                refine ⟨⟨k + 1, by go_num, by omega, by omega, ⟨_, rfl, hnext.out⟩, B8⟩, ?_⟩
                simp only [intOf]; omega
            · have hke : k = s.size + 1 := by omega
              have hdone : Hid (b2 = true ↔ ∃ i j, i < q + 1 ∧ i ≤ j ∧ j ≤ s.size ∧ PP i j = true) := by
                show b2 = true ↔ _
                rw [hb2]
                constructor
                · rintro (⟨i, j, h1, h2⟩ | ⟨j, h1, h2, h3⟩)
                  · exact ⟨i, j, by omega, h2⟩
                  · exact ⟨q, j, by omega, h1, by omega, h3⟩
                · rintro ⟨i, j, h1, h2, h3, h4⟩
                  by_cases hiq : i = q
                  · subst hiq; exact Or.inr ⟨j, h2, by omega, h4⟩
                  · exact Or.inl ⟨i, j, by omega, h2, h3, h4⟩
              clear hb2 hpc2 hke
              go_wp2
              refine ⟨⟨q + 1, by go_num, by omega, ⟨b2, rfl, hdone.out⟩, hbel2⟩, ?_⟩
              simp only [intOf]; omega
        · have hbY : b = true := by
            rw [Bool.eq_iff_iff]
            refine hbH.out.trans (Iff.trans ?_ hany3.out.symm)
            constructor
            · rintro ⟨i, j, _, h2⟩; exact ⟨i, j, h2⟩
            · rintro ⟨i, j, h1, h2, h3⟩; exact ⟨i, j, by omega, h1, h2, h3⟩
          subst hbY
          clear hbH hany3 hpc2
          go_wp2
          go_ret
          exact ⟨rfl, hbel⟩

end Go.Proofs.Ytgifhgnccmnbiaa
