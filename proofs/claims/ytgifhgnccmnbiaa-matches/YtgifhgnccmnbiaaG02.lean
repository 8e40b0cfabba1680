/- The document's answer: the bounds of a repeat. -/
import Derived.Test.YtgifhgnccmnbiaaG01
import Derived.Deep.RegionLaw
set_option linter.unusedVariables false
set_option linter.unusedSimpArgs false
namespace Go.Proofs.Ytgifhgnccmnbiaa
open Go.RowKit Go.IntWalk

/-- In the midst of a repeat's bounds. -/
structure BM (w0 w : World) (b a : Nat) (t : ByteArray) (kv : Value) (s : RS) (least most : Int) : Prop where
  rr : RR w b t s
  part : Blk w a #[.int .i64 6, .slice none 0 0, .bool false, kv, .int .i64 least, .int .i64 most] 160
  kept : Kept [b, a] w0 w
section
variable {w0 w w' : World} {b a : Nat} {t : ByteArray} {kv : Value} {s s' : RS} {l m : Int}
theorem BM.scan (h : BM w0 w b a t kv s l m) (r : RR w' b t s') (k : Kept [b] w w') (ha : a ≠ b) : BM w0 w' b a t kv s' l m :=
  ⟨r, h.part.kept k (by simpa using ha), h.kept.trans (k.mono (by simp))⟩
theorem BM.least (h : BM w0 w b a t kv s l m) (ha : a ≠ b) (x : Int) : BM w0 (w.setCell ⟨a, 4, none⟩ (.int .i64 x)) b a t kv s x m :=
  ⟨⟨Blk.other h.rr.blk _ _ (Ne.symm ha), h.rr.fits, h.rr.small⟩, h.part.set 4 _, h.kept.setCell (by simp) _⟩
theorem BM.most (h : BM w0 w b a t kv s l m) (ha : a ≠ b) (x : Int) : BM w0 (w.setCell ⟨a, 5, none⟩ (.int .i64 x)) b a t kv s l x :=
  ⟨⟨Blk.other h.rr.blk _ _ (Ne.symm ha), h.rr.fits, h.rr.small⟩, h.part.set 5 _, h.kept.setCell (by simp) _⟩
theorem BM.mark (h : BM w0 w b a t kv s l m) (ha : a ≠ b) : BM w0 (w.setCell ⟨b, 1, none⟩ (.bool true)) b a t kv (markS s) l m :=
  ⟨h.rr.mark, Blk.other h.part _ _ ha, h.kept.setCell (by simp) _⟩
theorem BM.drewN (h : BM w0 w b a t kv s l m) (n : Nat) : BM w0 (w.drewN n) b a t kv s l m := ⟨⟨h.rr.blk, h.rr.fits, h.rr.small⟩, h.part, h.kept.drewN n⟩
theorem BM.c4 (h : BM w0 w b a t kv s l m) : w.cell? ⟨a, 4, none⟩ = some (.int .i64 l) := by rw [h.part.cell]; rfl
theorem BM.c5 (h : BM w0 w b a t kv s l m) : w.cell? ⟨a, 5, none⟩ = some (.int .i64 m) := by rw [h.part.cell]; rfl
end

theorem bndMost_end {t : ByteArray} {s : RS} (h1 : (takeS t 44 (tkS t s).2).1 = true) (h2 : (takeS t 125 (takeS t 44 (tkS t s).2).2).1 = true) :
    bndMost t s = (-1, takeS t 125 (takeS t 44 (tkS t s).2).2) := by unfold bndMost; simp only []; rw [if_pos ⟨h1, h2⟩]
theorem bndMost_two {t : ByteArray} {s : RS} (h1 : (takeS t 44 (tkS t s).2).1 = true) (h2 : (takeS t 125 (takeS t 44 (tkS t s).2).2).1 = false) :
    bndMost t s = (let n := tkS t (takeS t 125 (takeS t 44 (tkS t s).2).2).2
      let e := takeS t 125 n.2
      (n.1 - 48, (e.1, if n.1 < 48 ∨ 57 < n.1 ∨ n.1 - 48 < (tkS t s).1 - 48 then markS e.2 else e.2))) := by
  unfold bndMost; simp only []; rw [if_neg (by rw [h2]; simp), if_pos h1]
theorem bndMost_one {t : ByteArray} {s : RS} (h1 : (takeS t 44 (tkS t s).2).1 = false) : bndMost t s = ((tkS t s).1 - 48, takeS t 125 (takeS t 44 (tkS t s).2).2) := by
  unfold bndMost; simp only []; rw [if_neg (by rw [h1]; simp), if_neg (by rw [h1]; simp)]

set_option maxHeartbeats 4000000 in
set_option maxRecDepth 100000 in
theorem rbounds_any (b a : Nat) (t : ByteArray) (kv : Value) (s : RS) (w : World) (h : RR w b t s)
    (ha : Blk w a #[.int .i64 6, .slice none 0 0, .bool false, kv, .int .i64 0, .int .i64 (-1)] 160) (hab : a ≠ b) :
    Calls Try.prog 130 #[.pointer (some ⟨b, 0, none⟩), .pointer (some ⟨a, 0, none⟩)] w fun e w' => e = .returned (.tuple #[]) ∧
      BM w w' b a t kv (bndR t s).2 (bndR t s).1.1 (bndR t s).1.2 := by
  have bd1 := tk_bd t s
  have m0 : BM w w b a t kv s 0 (-1) := ⟨h, ha, Kept.refl _ _⟩
  clear ha
  go_enter Try.func130, Try.ntmps130
  go_wp2_with fail
  refine (rtake_any b t s _ h).mono ?_
  rintro e w1 ⟨rfl, h1, k1⟩
  have m1 := m0.scan h1 k1 hab
  have q1 := m1.c4
  have q2 := m1.c5
  have q3 := m1.part.frozen 4
  have q4 := m1.part.frozen 5
  have m2 := (m1.least hab ((tkS t s).1 - 48)).most hab ((tkS t s).1 - 48)
  clear h m0 h1 k1
  go_wp2_with fail
  refine (rnext_any b 44 t _ _ m2.rr (by omega) (by omega)).mono ?_
  rintro e w3 ⟨rfl, h3, k3⟩
  have m3 := m2.scan h3 k3 hab
  go_wp2_with fail
  refine (rnext_any b 125 t _ _ m3.rr (by omega) (by omega)).mono ?_
  rintro e w4 ⟨rfl, h4, k4⟩
  have m4 := m3.scan h4 k4 hab
  clear m1 m2 m3 h3 h4 k3 k4 q1 q2 q3 q4
  have q3 := m4.part.frozen 4
  have q4 := m4.part.frozen 5
  have q1 := m4.c4
  have q2 := m4.c5
  go_upto_region 5 with fail
  go_cut [5, 6, 30] (fun s5 s6 s30 wx => s5 = .bool (takeS t 44 (tkS t s).2).1 ∧ s6 = .bool (takeS t 125 (takeS t 44 (tkS t s).2).2).1 ∧ s30 = .bool ((takeS t 44 (tkS t s).2).1 && (takeS t 125 (takeS t 44 (tkS t s).2).2).1) ∧ wx = w4)
  case first =>
    cases hc : (takeS t 44 (tkS t s).2).1 with
    | false =>
      go_wp2
      go_meet
      exact ⟨by rw [hc], rfl, by rw [hc]; rfl, rfl⟩
    | true =>
      go_wp2
      go_meet
      exact ⟨by rw [hc], rfl, by rw [hc]; rfl, rfl⟩
  case rest =>
    obtain ⟨rfl, rfl, rfl, rfl⟩ := hcut
    go_upto_if 30 with fail
    go_cut [5, 6, 7] (fun s5 s6 s7 wx => s5 = .bool (takeS t 44 (tkS t s).2).1 ∧ s6 = .bool (bndMost t s).2.1 ∧ BM w wx b a t kv (bndMost t s).2.2 ((tkS t s).1 - 48) (bndMost t s).1)
    case first =>
      go_wp2_with fail
      · have hcd : (takeS t 44 (tkS t s).2).1 = true ∧ (takeS t 125 (takeS t 44 (tkS t s).2).2).1 = true := by assumption
        have e : Hid (_ = _) := bndMost_end hcd.1 hcd.2
        have m5 := m4.most hab (-1)
        go_meet
        rw [e.out]
        exact ⟨rfl, by rw [hcd.2], m5⟩
      · have hc : (takeS t 44 (tkS t s).2).1 = true := by assumption
        have hd : (takeS t 125 (takeS t 44 (tkS t s).2).2).1 = false := by
          have hor : (takeS t 44 (tkS t s).2).1 = false ∨ (takeS t 125 (takeS t 44 (tkS t s).2).2).1 = false := by assumption
          rcases hor with hx | hx
          · rw [hc] at hx; cases hx
          · exact hx
        have e : Hid (_ = _) := bndMost_two hc hd
        have bdn := tk_bd t (takeS t 125 (takeS t 44 (tkS t s).2).2).2
        refine (rtake_any b t _ _ m4.rr).mono ?_
        rintro e5 w5 ⟨rfl, h5, k5⟩
        have m5 := m4.scan h5 k5 hab
        have g1 := m5.c5
        have g2 := m5.part.frozen 5
        have m6 := m5.most hab ((tkS t (takeS t 125 (takeS t 44 (tkS t s).2).2).2).1 - 48)
        go_wp2_with fail
        refine (rnext_any b 125 t _ _ m6.rr (by omega) (by omega)).mono ?_
        rintro e7 w7 ⟨rfl, h7, k7⟩
        have m7 := m6.scan h7 k7 hab
        clear m4 m5 m6 g1 g2 q1 q2 q3 q4
        have g1 := m7.c5
        have g2 := m7.c4
        have g3 := m7.rr.c1
        have g4 := m7.rr.f 1
        have mk := fun n => (m7.drewN n).mark hab
        generalize hn : (tkS t (takeS t 125 (takeS t 44 (tkS t s).2).2).2) = n at *
        have hn : Hid (_ = _) := hn
        have hc : Hid (_ = _) := hc
        go_upto_region 11 with fail
        go_cut [61] (fun s61 wx => s61 = .bool (decide (n.1 < 48) || decide (57 < n.1) || decide (n.1 - 48 < (tkS t s).1 - 48)) ∧ ∃ k, wx = w7.drewN k)
        case first =>
          clear m7 mk g3 g4 k7 h7 h5 e hn
          by_cases l1 : n.1 < 48
          · have d1 : decide (n.1 < 48) = true := by simpa using l1
            go_quiet (fail)
            try go_wp2_with fail
            go_meet
            exact ⟨by simp [l1], _, rfl⟩
          have d1 : decide (n.1 < 48) = false := by simpa using l1
          by_cases l2 : 57 < n.1
          · have d2 : decide (57 < n.1) = true := by simpa using l2
            go_quiet (fail)
            try go_wp2_with fail
            go_meet
            exact ⟨by simp [l2], _, rfl⟩
          have d2 : decide (57 < n.1) = false := by simpa using l2
          go_quiet (fail)
          try go_wp2_with fail
          go_meet
          exact ⟨by rw [d1, d2, Bool.false_or, Bool.false_or]; congr 1; apply decide_eq_decide.2; omega, _, rfl⟩
        case rest =>
          obtain ⟨rfl, k, rfl⟩ := hcut
          have g3 : (w7.drewN k).cell? ⟨b, 1, none⟩ = some (.bool (takeS t 125 n.2).2.2) := g3
          have g4 : (w7.drewN k).frozen? ⟨b, 1, none⟩ = false := g4
          go_wp2_with fail
          · go_meet
            rw [e.out]
            simp only []
            rw [if_pos (by omega)]
            exact ⟨by rw [hc.out], by first | rfl | trivial, mk _⟩
          · go_meet
            rw [e.out]
            simp only []
            rw [if_neg (by omega)]
            exact ⟨by rw [hc.out], by first | rfl | trivial, m7.drewN _⟩
      · have hc : (takeS t 44 (tkS t s).2).1 = false := by assumption
        have e : Hid (_ = _) := bndMost_one hc
        go_meet
        rw [e.out]
        exact ⟨rfl, rfl, m4⟩
    case rest =>
      obtain ⟨rfl, rfl, m5⟩ := hcut
      have g3 := m5.rr.c1
      have g4 := m5.rr.f 1
      have mk := m5.mark hab
      by_cases l1 : (tkS t s).1 < 48
      · have e : Hid ((bndR t s).2 = markS (bndMost t s).2.2) := if_pos (Or.inl l1)
        go_wp2
        go_end0
        refine ⟨rfl, ?_⟩
        rw [e.out]
        exact mk
      by_cases l2 : 57 < (tkS t s).1
      · have e : Hid ((bndR t s).2 = markS (bndMost t s).2.2) := if_pos (Or.inr (Or.inl l2))
        go_wp2
        go_end0
        refine ⟨rfl, ?_⟩
        rw [e.out]
        exact mk
      cases hcl : (bndMost t s).2.1 with
      | false =>
        have e : Hid ((bndR t s).2 = markS (bndMost t s).2.2) := if_pos (Or.inr (Or.inr hcl))
        go_wp2
        go_end0
        refine ⟨rfl, ?_⟩
        rw [e.out]
        exact mk
      | true =>
        have e : Hid ((bndR t s).2 = (bndMost t s).2.2) := if_neg (by rw [hcl]; simp; omega)
        go_wp2
        go_end0
        refine ⟨rfl, ?_⟩
        rw [e.out]
        exact m5

end Go.Proofs.Ytgifhgnccmnbiaa

set_option linter.unusedVariables false
set_option linter.unusedSimpArgs false
namespace Go.Proofs.Ytgifhgnccmnbiaa
open Go.RowKit Go.IntWalk

/-- The reader behind a pointer: its text, its place and mark, its nodes. -/
structure RD (w : World) (b : Nat) (t : ByteArray) (s : RS) (v : Value) : Prop where
  blk : Blk w b #[.string t, .int .i64 (s.1 : Int), v, .bool s.2] 103
  fits : Fits t s
  small : t.size ≤ 40

section
variable {w w' : World} {b p : Nat} {t : ByteArray} {s : RS} {v : Value} {bad : Bool}
theorem RD.c0 (h : RD w b t s v) : w.cell? ⟨b, 0, none⟩ = some (.string t) := by rw [Blk.cell h.blk]; rfl
theorem RD.c1 (h : RD w b t s v) : w.cell? ⟨b, 1, none⟩ = some (.int .i64 (s.1 : Int)) := by rw [Blk.cell h.blk]; rfl
theorem RD.c2 (h : RD w b t s v) : w.cell? ⟨b, 2, none⟩ = some v := by rw [Blk.cell h.blk]; rfl
theorem RD.c3 (h : RD w b t s v) : w.cell? ⟨b, 3, none⟩ = some (.bool s.2) := by rw [Blk.cell h.blk]; rfl
theorem RD.f (h : RD w b t s v) (j : Nat) : w.frozen? ⟨b, j, none⟩ = false := Blk.frozen h.blk j
theorem RD.upto (h : RD w b t s v) (p : Nat) (hp : p ≤ t.size) : RD (w.setCell ⟨b, 1, none⟩ (.int .i64 (p : Int))) b t (p, s.2) v := ⟨Blk.set h.blk 1 _, hp, h.small⟩
theorem RD.mark (h : RD w b t s v) : RD (w.setCell ⟨b, 3, none⟩ (.bool true)) b t (s.1, true) v := ⟨Blk.set h.blk 3 _, h.fits, h.small⟩
theorem RD.kept {S : List Nat} (h : RD w b t s v) (k : Kept S w w') (hb : ¬ b ∈ S) : RD w' b t s v := ⟨Blk.kept h.blk k hb, h.fits, h.small⟩
end

set_option maxHeartbeats 400000 in
theorem peek_any (b k : Nat) (t : ByteArray) (s : RS) (v : Value) (w : World) (h : RD w b t s v) (hk : k ≤ 1) :
    Calls Try.prog 127 #[.pointer (some ⟨b, 0, none⟩), .int .i64 (k : Int)] w fun e w' => e = .returned (.int .i64 (pk t (s.1 + k))) ∧ w' = w := by
  have h0 := h.c0
  have h1 := h.c1
  have hp := h.fits
  have hs := h.small
  obtain ⟨p, bad⟩ := s
  simp only [Fits] at hp
  clear h
  by_cases hlt : p + k < t.size
  · go_enter Try.func127, Try.ntmps127
    go_wp2
    go_ret
    exact ⟨ret_int (by rw [pk_lt hlt]; have := t[p + k].toNat_lt; exact wrap64_in _ (by omega)), rfl⟩
  · go_enter Try.func127, Try.ntmps127
    go_wp2
    go_ret
    exact ⟨ret_int (by rw [pk_ge hlt]), rfl⟩

theorem peek0 (b : Nat) (t : ByteArray) (s : RS) (v : Value) (w : World) (h : RD w b t s v) :
    Calls Try.prog 127 #[.pointer (some ⟨b, 0, none⟩), .int .i64 0] w fun e w' => e = .returned (.int .i64 (pk t s.1)) ∧ w' = w := peek_any b 0 t s v w h (by omega)
theorem peek1 (b : Nat) (t : ByteArray) (s : RS) (v : Value) (w : World) (h : RD w b t s v) :
    Calls Try.prog 127 #[.pointer (some ⟨b, 0, none⟩), .int .i64 1] w fun e w' => e = .returned (.int .i64 (pk t (s.1 + 1))) ∧ w' = w := peek_any b 1 t s v w h (by omega)

set_option maxHeartbeats 400000 in
theorem fail_any (b : Nat) (t : ByteArray) (s : RS) (v : Value) (w : World) (h : RD w b t s v) :
    Calls Try.prog 61 #[.pointer (some ⟨b, 0, none⟩)] w fun e w' => e = .returned (.tuple #[]) ∧ RD w' b t (failS t) v ∧ Kept [b] w w' := by
  have h0 := h.c0
  have h1 := h.c1
  have h3 := h.c3
  have f1 := h.f 1
  have f3 := h.f 3
  have hs := h.small
  go_enter Try.func61, Try.ntmps61
  go_wp2
  go_end0
  exact ⟨rfl, h.mark.upto _ (Nat.le_refl _), ((Kept.refl _ _).setCell (by simp) _).setCell (by simp) _⟩

set_option maxHeartbeats 400000 in
theorem next_any (b : Nat) (t : ByteArray) (s : RS) (v : Value) (w : World) (h : RD w b t s v) :
    Calls Try.prog 156 #[.pointer (some ⟨b, 0, none⟩)] w fun e w' => e = .returned (.int .i64 (nextS t s).1) ∧ RD w' b t (nextS t s).2 v ∧ Kept [b] w w' := by
  have h1 := h.c1
  have f1 := h.f 1
  have hp := h.fits
  have hs := h.small
  simp only [Fits] at hp
  by_cases hn : pk t s.1 = -1
  · have hb : (pk t s.1 == -1) = true := by rw [hn]; rfl
    have e : nextS t s = (0, failS t) := if_pos hn
    rw [e]
    clear hn e
    go_enter Try.func156, Try.ntmps156
    go_wp2_with (first | (go_at_call 127; refine (peek0 b t s v _ h).mono ?_; rintro e w' ⟨rfl, rfl⟩) | (go_at_call 61; refine (fail_any b t s v _ h).mono ?_; rintro e w' ⟨rfl, h', k'⟩))
    go_ret
    exact ⟨rfl, h', k'⟩
  · have hb : (pk t s.1 == -1) = false := by simpa using hn
    have e : nextS t s = (pk t s.1, (s.1 + 1, s.2)) := if_neg hn
    have hl : s.1 < t.size := by rw [pk_none] at hn; omega
    rw [e]
    clear hn e
    go_enter Try.func156, Try.ntmps156
    go_wp2_with (first | (go_at_call 127; refine (peek0 b t s v _ h).mono ?_; rintro e w' ⟨rfl, rfl⟩))
    go_ret
    exact ⟨rfl, h.upto (s.1 + 1) (by omega), (Kept.refl _ _).setCell (by simp) _⟩

set_option maxHeartbeats 400000 in
theorem take_any (b : Nat) (c : Int) (t : ByteArray) (s : RS) (v : Value) (w : World) (h : RD w b t s v) (hc : 0 ≤ c) (hc' : c ≤ 255) :
    Calls Try.prog 89 #[.pointer (some ⟨b, 0, none⟩), .int .i64 c] w fun e w' => e = .returned (.bool (takeS t c s).1) ∧ RD w' b t (takeS t c s).2 v ∧ Kept [b] w w' := by
  have h1 := h.c1
  have f1 := h.f 1
  have hp := h.fits
  have hs := h.small
  simp only [Fits] at hp
  by_cases hn : pk t s.1 = c
  · have hb : (pk t s.1 != c) = false := by rw [hn]; simp
    have e : takeS t c s = (true, (s.1 + 1, s.2)) := if_pos hn
    have hl : s.1 < t.size := pk_some (by omega)
    rw [e]
    clear hn e
    go_enter Try.func89, Try.ntmps89
    go_wp2_with (first | (go_at_call 127; refine (peek0 b t s v _ h).mono ?_; rintro e w' ⟨rfl, rfl⟩))
    go_ret
    exact ⟨rfl, h.upto (s.1 + 1) (by omega), (Kept.refl _ _).setCell (by simp) _⟩
  · have hb : (pk t s.1 != c) = true := by simpa using hn
    have e : takeS t c s = (false, s) := if_neg hn
    rw [e]
    clear hn e
    go_enter Try.func89, Try.ntmps89
    go_wp2_with (first | (go_at_call 127; refine (peek0 b t s v _ h).mono ?_; rintro e w' ⟨rfl, rfl⟩))
    go_ret
    exact ⟨rfl, h, Kept.refl _ _⟩

end Go.Proofs.Ytgifhgnccmnbiaa

set_option linter.unusedVariables false
set_option linter.unusedSimpArgs false
namespace Go.Proofs.Ytgifhgnccmnbiaa
open Go.RowKit Go.IntWalk

set_option maxHeartbeats 400000 in
theorem atEnd_any (b : Nat) (t : ByteArray) (s : RS) (v : Value) (w : World) (h : RD w b t s v) :
    Calls Try.prog 124 #[.pointer (some ⟨b, 0, none⟩)] w fun e w' => e = .returned (.bool (endS t s)) ∧ w' = w := by
  go_enter Try.func124, Try.ntmps124
  go_wp2_with (first | (go_at_call 127; refine (peek0 b t s v _ h).mono ?_; rintro e w' ⟨rfl, rfl⟩))
  all_goals go_ret
  all_goals exact ⟨ret_bool (by simp [endS, *]), rfl⟩

set_option maxHeartbeats 400000 in
theorem atRep_any (b : Nat) (t : ByteArray) (s : RS) (v : Value) (w : World) (h : RD w b t s v) :
    Calls Try.prog 147 #[.pointer (some ⟨b, 0, none⟩)] w fun e w' => e = .returned (.bool (repS t s)) ∧ w' = w := by
  go_enter Try.func147, Try.ntmps147
  go_wp2_with (first | (go_at_call 127; refine (peek0 b t s v _ h).mono ?_; rintro e w' ⟨rfl, rfl⟩))
  all_goals go_ret
  all_goals exact ⟨ret_bool (by simp [repS, *]), rfl⟩

set_option maxHeartbeats 400000 in
theorem atItem_any (b : Nat) (t : ByteArray) (s : RS) (v : Value) (w : World) (h : RD w b t s v) :
    Calls Try.prog 162 #[.pointer (some ⟨b, 0, none⟩)] w fun e w' => e = .returned (.bool (itemQ t s)) ∧ w' = w := by
  go_enter Try.func162, Try.ntmps162
  go_wp2_with (first | (go_at_call 127; refine (peek0 b t s v _ h).mono ?_; rintro e w' ⟨rfl, rfl⟩))
  all_goals go_ret
  all_goals exact ⟨ret_bool (by simp [itemQ, *]), rfl⟩

set_option maxHeartbeats 400000 in
theorem atSec_any (b : Nat) (t : ByteArray) (s : RS) (v : Value) (w : World) (h : RD w b t s v) :
    Calls Try.prog 167 #[.pointer (some ⟨b, 0, none⟩)] w fun e w' => e = .returned (.bool (secS t s)) ∧ w' = w := by
  go_enter Try.func167, Try.ntmps167
  go_wp2_with fail
  refine (peek0 b t s v _ h).mono ?_
  rintro e w' ⟨rfl, rfl⟩
  go_wp2_with fail
  refine (peek1 b t s v _ h).mono ?_
  rintro e w' ⟨rfl, rfl⟩
  go_wp2
  all_goals go_ret
  all_goals exact ⟨ret_bool (by simp [secS, *]), rfl⟩

set_option maxHeartbeats 400000 in
theorem member_any (b : Nat) (t : ByteArray) (s : RS) (v : Value) (w : World) (h : RD w b t s v) :
    Calls Try.prog 166 #[.pointer (some ⟨b, 0, none⟩)] w fun e w' => e = .returned (.int .i64 (memS t s).1) ∧ RD w' b t (memS t s).2 v ∧ Kept [b] w w' := by
  by_cases hn : (nextS t s).1 = 92
  · have hb : ((nextS t s).1 == 92) = true := by rw [hn]; rfl
    have e : memS t s = nextS t (nextS t s).2 := if_pos hn
    rw [e]
    clear hn e
    go_enter Try.func166, Try.ntmps166
    go_wp2_with fail
    refine (next_any b t s v _ h).mono ?_
    rintro e w1 ⟨rfl, h1, k1⟩
    go_wp2_with fail
    refine (next_any b t _ v _ h1).mono ?_
    rintro e w2 ⟨rfl, h2, k2⟩
    go_wp2
    go_ret
    exact ⟨rfl, h2, k1.trans k2⟩
  · have hb : ((nextS t s).1 == 92) = false := by simpa using hn
    have e : memS t s = nextS t s := if_neg hn
    rw [e]
    clear hn e
    go_enter Try.func166, Try.ntmps166
    go_wp2_with fail
    refine (next_any b t s v _ h).mono ?_
    rintro e w1 ⟨rfl, h1, k1⟩
    go_wp2
    go_ret
    exact ⟨rfl, h1, k1⟩

set_option maxHeartbeats 400000 in
theorem digit_any (b : Nat) (t : ByteArray) (s : RS) (v : Value) (w : World) (h : RD w b t s v) :
    Calls Try.prog 164 #[.pointer (some ⟨b, 0, none⟩)] w fun e w' => e = .returned (.int .i64 (digS t s).1) ∧ RD w' b t (digS t s).2 v ∧ Kept [b] w w' := by
  have hbd := next_bd t s
  by_cases hn : (nextS t s).1 < 48
  · have e : digS t s = (0, failS t) := if_pos (Or.inl hn)
    rw [e]
    clear e
    go_enter Try.func164, Try.ntmps164
    go_wp2_with fail
    refine (next_any b t s v _ h).mono ?_
    rintro e w1 ⟨rfl, h1, k1⟩
    go_wp2_with fail
    refine (fail_any b t _ v _ h1).mono ?_
    rintro e w2 ⟨rfl, h2, k2⟩
    go_wp2
    go_ret
    exact ⟨rfl, h2, k1.trans k2⟩
  by_cases hm : 57 < (nextS t s).1
  · have e : digS t s = (0, failS t) := if_pos (Or.inr hm)
    rw [e]
    clear e
    go_enter Try.func164, Try.ntmps164
    go_wp2_with fail
    refine (next_any b t s v _ h).mono ?_
    rintro e w1 ⟨rfl, h1, k1⟩
    go_wp2_with fail
    refine (fail_any b t _ v _ h1).mono ?_
    rintro e w2 ⟨rfl, h2, k2⟩
    go_wp2
    go_ret
    exact ⟨rfl, h2, k1.trans k2⟩
  · have e : digS t s = ((nextS t s).1 - 48, (nextS t s).2) := if_neg (by omega)
    rw [e]
    clear e
    go_enter Try.func164, Try.ntmps164
    go_wp2_with fail
    refine (next_any b t s v _ h).mono ?_
    rintro e w1 ⟨rfl, h1, k1⟩
    go_wp2
    go_ret
    exact ⟨rfl, h1, k1⟩

set_option maxHeartbeats 400000 in
theorem upper_any (b : Nat) (t : ByteArray) (s : RS) (v : Value) (w : World) (h : RD w b t s v) :
    Calls Try.prog 165 #[.pointer (some ⟨b, 0, none⟩)] w fun e w' => e = .returned (.int .i64 (upS t s).1) ∧ RD w' b t (upS t s).2 v ∧ Kept [b] w w' := by
  by_cases hn : pk t s.1 = 125
  · have hb : (pk t s.1 == 125) = true := by rw [hn]; rfl
    have e : upS t s = (-1, s) := if_pos hn
    rw [e]
    clear hn e
    go_enter Try.func165, Try.ntmps165
    go_wp2_with fail
    refine (peek0 b t s v _ h).mono ?_
    rintro e w1 ⟨rfl, rfl⟩
    go_wp2
    go_ret
    exact ⟨rfl, h, Kept.refl _ _⟩
  · have hb : (pk t s.1 == 125) = false := by simpa using hn
    have e : upS t s = digS t s := if_neg hn
    rw [e]
    clear hn e
    go_enter Try.func165, Try.ntmps165
    go_wp2_with fail
    refine (peek0 b t s v _ h).mono ?_
    rintro e w1 ⟨rfl, rfl⟩
    go_wp2_with fail
    refine (digit_any b t s v _ h).mono ?_
    rintro e w1 ⟨rfl, h1, k1⟩
    go_wp2
    go_ret
    exact ⟨rfl, h1, k1⟩

end Go.Proofs.Ytgifhgnccmnbiaa

set_option linter.unusedVariables false
set_option linter.unusedSimpArgs false
namespace Go.Proofs.Ytgifhgnccmnbiaa
open Go.RowKit Go.IntWalk

set_option maxHeartbeats 1000000 in
theorem item_any (b : Nat) (t : ByteArray) (s : RS) (v : Value) (w : World) (h : RD w b t s v) :
    Calls Try.prog 163 #[.pointer (some ⟨b, 0, none⟩)] w fun e w' =>
      e = .returned (.agg #[.int .i64 (itemS t s).1.1, .int .i64 (itemS t s).1.2]) ∧ RD w' b t (itemS t s).2 v ∧ Kept [b] w w' := by
  have hbw : b < w.heap.size := h.blk.lt
  have hz : RD (w.alloc (.cells #[.int .i64 0, .int .i64 0] 208)) b t s v := h.kept (Kept.alloc (Kept.refl [] w) _) (by simp)
  have kz : Kept [b] w (w.alloc (.cells #[.int .i64 0, .int .i64 0] 208)) := Kept.alloc (Kept.refl _ w) _
  have bz : Blk (w.alloc (.cells #[.int .i64 0, .int .i64 0] 208)) w.heap.size #[.int .i64 0, .int .i64 0] 208 := Blk.new _ _ _
  clear h
  have fin : ∀ (x : World) (lo hi : Int) (s' : RS), RD x b t s' v → Kept [b] w x → Blk x w.heap.size #[.int .i64 0, .int .i64 0] 208 →
      ((x.setCell ⟨w.heap.size, 0, none⟩ (.int .i64 lo)).setCell ⟨w.heap.size, 1, none⟩ (.int .i64 hi)).cell? ⟨w.heap.size, 0, none⟩ = some (.int .i64 lo) ∧
      ((x.setCell ⟨w.heap.size, 0, none⟩ (.int .i64 lo)).setCell ⟨w.heap.size, 1, none⟩ (.int .i64 hi)).cell? ⟨w.heap.size, 1, none⟩ = some (.int .i64 hi) ∧
      RD ((x.setCell ⟨w.heap.size, 0, none⟩ (.int .i64 lo)).setCell ⟨w.heap.size, 1, none⟩ (.int .i64 hi)) b t s' v ∧
      Kept [b] w ((x.setCell ⟨w.heap.size, 0, none⟩ (.int .i64 lo)).setCell ⟨w.heap.size, 1, none⟩ (.int .i64 hi)) := by
    intro x lo hi s' hr hk hb
    have hb2 := (hb.set 0 (.int .i64 lo)).set 1 (.int .i64 hi)
    refine ⟨by rw [hb2.cell]; rfl, by rw [hb2.cell]; rfl, ⟨Blk.other (Blk.other hr.blk _ _ (by omega)) _ _ (by omega), hr.fits, hr.small⟩, (hk.setCell (Or.inr (Nat.le_refl _)) _).setCell (Or.inr (Nat.le_refl _)) _⟩
  by_cases hq : secS t (memS t s).2 = true
  · have e1 : highS t s = memS t ((memS t s).2.1 + 1, (memS t s).2.2) := if_pos hq
    have hl : (memS t s).2.1 < t.size := fits_sec hq
    by_cases hc : (highS t s).1 < (memS t s).1
    · have e2 : itemS t s = (((memS t s).1, (highS t s).1), failS t) := by unfold itemS; rw [if_pos hc]
      rw [e2]
      rw [e1] at hc ⊢
      clear e1 e2
      go_enter Try.func163, Try.ntmps163
      go_wp2_with fail
      refine (member_any b t s v _ hz).mono ?_
      rintro e w1 ⟨rfl, h1, k1⟩
      go_wp2_with fail
      refine (atSec_any b t _ v _ h1).mono ?_
      rintro e w1 ⟨rfl, rfl⟩
      have q1 := h1.c1
      have q2 := h1.f 1
      have hsm := h1.small
      go_wp2_with fail
      refine (member_any b t _ v _ (h1.upto _ hl)).mono ?_
      rintro e w2 ⟨rfl, h2, k2⟩
      go_wp2_with fail
      refine (fail_any b t _ v _ h2).mono ?_
      rintro e w3 ⟨rfl, h3, k3⟩
      have kk := (k1.trans (((Kept.refl _ _).setCell (by simp) _).trans k2)).trans k3
      have b3 := bz.kept kk (by simp; omega)
      have g0 := b3.frozen 0
      have g1 := b3.frozen 1
      have g2 := b3.cell 0
      have g3 := b3.cell 1
      obtain ⟨r0, r1, r2, r3⟩ := fin w3 (memS t s).1 _ _ h3 (kz.trans kk) b3
      go_wp2
      exact bodyPost_ret (v := .agg #[.int .i64 _, .int .i64 _]) (by simp [results, Try.results163, go_sem, r0, r1]) rfl ⟨rfl, r2, r3⟩
    · have e2 : itemS t s = (((memS t s).1, (highS t s).1), (highS t s).2) := by unfold itemS; rw [if_neg hc]
      rw [e2]
      rw [e1] at hc ⊢
      clear e1 e2
      go_enter Try.func163, Try.ntmps163
      go_wp2_with fail
      refine (member_any b t s v _ hz).mono ?_
      rintro e w1 ⟨rfl, h1, k1⟩
      go_wp2_with fail
      refine (atSec_any b t _ v _ h1).mono ?_
      rintro e w1 ⟨rfl, rfl⟩
      have q1 := h1.c1
      have q2 := h1.f 1
      have hsm := h1.small
      go_wp2_with fail
      refine (member_any b t _ v _ (h1.upto _ hl)).mono ?_
      rintro e w2 ⟨rfl, h2, k2⟩
      have kk := k1.trans (((Kept.refl _ _).setCell (by simp) _).trans k2)
      have b3 := bz.kept kk (by simp; omega)
      have g0 := b3.frozen 0
      have g1 := b3.frozen 1
      have g2 := b3.cell 0
      have g3 := b3.cell 1
      obtain ⟨r0, r1, r2, r3⟩ := fin w2 (memS t s).1 _ _ h2 (kz.trans kk) b3
      go_wp2
      exact bodyPost_ret (v := .agg #[.int .i64 _, .int .i64 _]) (by simp [results, Try.results163, go_sem, r0, r1]) rfl ⟨rfl, r2, r3⟩
  · have e1 : highS t s = memS t s := if_neg hq
    have e2 : itemS t s = (((memS t s).1, (memS t s).1), (memS t s).2) := by unfold itemS; rw [e1, if_neg (by omega)]
    have hf : secS t (memS t s).2 = false := by simpa using hq
    rw [e2]
    clear e1 e2 hq
    go_enter Try.func163, Try.ntmps163
    go_wp2_with fail
    refine (member_any b t s v _ hz).mono ?_
    rintro e w1 ⟨rfl, h1, k1⟩
    go_wp2_with fail
    refine (atSec_any b t _ v _ h1).mono ?_
    rintro e w1 ⟨rfl, rfl⟩
    have b3 := bz.kept k1 (by simp; omega)
    have g0 := b3.frozen 0
    have g1 := b3.frozen 1
    have g2 := b3.cell 0
    have g3 := b3.cell 1
    obtain ⟨r0, r1, r2, r3⟩ := fin w1 (memS t s).1 (memS t s).1 _ h1 (kz.trans k1) b3
    go_wp2
    exact bodyPost_ret (v := .agg #[.int .i64 _, .int .i64 _]) (by simp [results, Try.results163, go_sem, r0, r1]) rfl ⟨rfl, r2, r3⟩

set_option maxHeartbeats 400000 in
/-- The upper bound of a pair of braces. -/
theorem most_true {t : ByteArray} {s : RS} (h : (takeS t 44 (digS t s).2).1 = true) : mostS t s = upS t (takeS t 44 (digS t s).2).2 := if_pos h
theorem most_false {t : ByteArray} {s : RS} (h : (takeS t 44 (digS t s).2).1 = false) : mostS t s = ((digS t s).1, (takeS t 44 (digS t s).2).2) := if_neg (by rw [h]; decide)

theorem braces_bad {t : ByteArray} {s : RS} (h : (takeS t 125 (mostS t s).2).1 = false ∨ ((mostS t s).1 ≠ -1 ∧ (mostS t s).1 < (digS t s).1)) : bracesS t s = ((0, 0), failS t) := if_pos h
theorem braces_good {t : ByteArray} {s : RS} (h : ¬ ((takeS t 125 (mostS t s).2).1 = false ∨ ((mostS t s).1 ≠ -1 ∧ (mostS t s).1 < (digS t s).1))) :
    bracesS t s = (((digS t s).1, (mostS t s).1), (takeS t 125 (mostS t s).2).2) := if_neg h

set_option maxHeartbeats 1000000 in
theorem braces_any (b : Nat) (t : ByteArray) (s : RS) (v : Value) (w : World) (h : RD w b t s v) :
    Calls Try.prog 160 #[.pointer (some ⟨b, 0, none⟩)] w fun e w' =>
      e = .returned (.tuple #[.int .i64 (bracesS t s).1.1, .int .i64 (bracesS t s).1.2]) ∧ RD w' b t (bracesS t s).2 v ∧ Kept [b] w w' := by
  have bd1 := dig_bd t s
  have bd2 := most_bd t s
  have front : ∀ (x : Bool), (takeS t 44 (digS t s).2).1 = x → True := fun _ _ => trivial
  clear front
  by_cases hcl : (takeS t 125 (mostS t s).2).1 = false
  · have e2 := braces_bad (Or.inl hcl)
    rw [e2]
    clear e2
    go_enter Try.func160, Try.ntmps160
    go_wp2_with fail
    refine (digit_any b t s v _ h).mono ?_
    rintro e w1 ⟨rfl, h1, k1⟩
    go_wp2_with fail
    refine (take_any b 44 t _ v _ h1 (by omega) (by omega)).mono ?_
    rintro e w2 ⟨rfl, h2, k2⟩
    have k12 := k1.trans k2
    clear h1 k1 k2
    by_cases hm : (takeS t 44 (digS t s).2).1 = true
    · have e1 := most_true hm
      go_wp2_with fail
      refine (upper_any b t _ v _ h2).mono ?_
      rw [← e1]
      rintro e w3 ⟨rfl, h3, k3⟩
      have k13 := k12.trans k3
      clear h2 k12 k3 e1 hm
      go_wp2_with fail
      refine (take_any b 125 t _ v _ h3 (by omega) (by omega)).mono ?_
      rintro e w4 ⟨rfl, h4, k4⟩
      go_wp2_with fail
      refine (fail_any b t _ v _ h4).mono ?_
      rintro e w5 ⟨rfl, h5, k5⟩
      go_wp2
      go_ret2
      exact ⟨rfl, h5, (k13.trans k4).trans k5⟩
    · have e1 := most_false (by simpa using hm)
      have hm' : (takeS t 44 (digS t s).2).1 = false := by simpa using hm
      have e3 : (mostS t s).1 = (digS t s).1 := by rw [e1]
      rw [e1] at hcl
      go_wp2_with fail
      refine (take_any b 125 t _ v _ h2 (by omega) (by omega)).mono ?_
      rintro e w4 ⟨rfl, h4, k4⟩
      go_wp2_with fail
      refine (fail_any b t _ v _ h4).mono ?_
      rintro e w5 ⟨rfl, h5, k5⟩
      go_wp2
      go_ret2
      exact ⟨rfl, h5, (k12.trans k4).trans k5⟩
  have hcl : (takeS t 125 (mostS t s).2).1 = true := by simpa using hcl
  by_cases hm : (takeS t 44 (digS t s).2).1 = true
  · have e1 : Hid (_ = _) := most_true hm
    by_cases hn : (mostS t s).1 = -1
    · rw [braces_good (by rw [hcl]; simp [hn]), hn]
      go_enter Try.func160, Try.ntmps160
      go_wp2_with fail
      refine (digit_any b t s v _ h).mono ?_
      rintro e w1 ⟨rfl, h1, k1⟩
      go_wp2_with fail
      refine (take_any b 44 t _ v _ h1 (by omega) (by omega)).mono ?_
      rintro e w2 ⟨rfl, h2, k2⟩
      go_wp2_with fail
      refine (upper_any b t _ v _ h2).mono ?_
      rw [← e1.out]
      rintro e w3 ⟨rfl, h3, k3⟩
      go_wp2_with fail
      refine (take_any b 125 t _ v _ h3 (by omega) (by omega)).mono ?_
      rintro e w4 ⟨rfl, h4, k4⟩
      go_wp2
      go_ret2
      exact ⟨rfl, h4, ((k1.trans k2).trans k3).trans k4⟩
    by_cases hl : (mostS t s).1 < (digS t s).1
    · have hb : ((mostS t s).1 != -1) = true := by simpa using hn
      rw [braces_bad (Or.inr ⟨hn, hl⟩)]
      clear hn
      go_enter Try.func160, Try.ntmps160
      go_wp2_with fail
      refine (digit_any b t s v _ h).mono ?_
      rintro e w1 ⟨rfl, h1, k1⟩
      go_wp2_with fail
      refine (take_any b 44 t _ v _ h1 (by omega) (by omega)).mono ?_
      rintro e w2 ⟨rfl, h2, k2⟩
      go_wp2_with fail
      refine (upper_any b t _ v _ h2).mono ?_
      rw [← e1.out]
      rintro e w3 ⟨rfl, h3, k3⟩
      go_wp2_with fail
      refine (take_any b 125 t _ v _ h3 (by omega) (by omega)).mono ?_
      rintro e w4 ⟨rfl, h4, k4⟩
      go_wp2_with fail
      refine (fail_any b t _ v _ h4).mono ?_
      rintro e w5 ⟨rfl, h5, k5⟩
      go_wp2
      go_ret2
      exact ⟨rfl, h5, (((k1.trans k2).trans k3).trans k4).trans k5⟩
    · have hb : ((mostS t s).1 != -1) = true := by simpa using hn
      rw [braces_good (by rw [hcl]; simp; omega)]
      clear hn
      go_enter Try.func160, Try.ntmps160
      go_wp2_with fail
      refine (digit_any b t s v _ h).mono ?_
      rintro e w1 ⟨rfl, h1, k1⟩
      go_wp2_with fail
      refine (take_any b 44 t _ v _ h1 (by omega) (by omega)).mono ?_
      rintro e w2 ⟨rfl, h2, k2⟩
      go_wp2_with fail
      refine (upper_any b t _ v _ h2).mono ?_
      rw [← e1.out]
      rintro e w3 ⟨rfl, h3, k3⟩
      go_wp2_with fail
      refine (take_any b 125 t _ v _ h3 (by omega) (by omega)).mono ?_
      rintro e w4 ⟨rfl, h4, k4⟩
      go_wp2
      go_ret2
      exact ⟨rfl, h4, ((k1.trans k2).trans k3).trans k4⟩
  · have hm' : (takeS t 44 (digS t s).2).1 = false := by simpa using hm
    have e1 := most_false hm'
    have hb : ((digS t s).1 != -1) = true := by simp; omega
    rw [braces_good (by rw [hcl, e1]; simp), e1]
    rw [e1] at hcl
    clear e1 hm
    go_enter Try.func160, Try.ntmps160
    go_wp2_with fail
    refine (digit_any b t s v _ h).mono ?_
    rintro e w1 ⟨rfl, h1, k1⟩
    go_wp2_with fail
    refine (take_any b 44 t _ v _ h1 (by omega) (by omega)).mono ?_
    rintro e w2 ⟨rfl, h2, k2⟩
    go_wp2_with fail
    refine (take_any b 125 t _ v _ h2 (by omega) (by omega)).mono ?_
    rintro e w4 ⟨rfl, h4, k4⟩
    go_wp2
    go_ret2
    exact ⟨rfl, h4, (k1.trans k2).trans k4⟩

set_option maxHeartbeats 1000000 in
theorem repeat_any (b : Nat) (t : ByteArray) (s : RS) (v : Value) (w : World) (h : RD w b t s v) :
    Calls Try.prog 148 #[.pointer (some ⟨b, 0, none⟩)] w fun e w' =>
      e = .returned (.tuple #[.int .i64 (repeatS t s).1.1, .int .i64 (repeatS t s).1.2]) ∧ RD w' b t (repeatS t s).2 v ∧ Kept [b] w w' := by
  by_cases ha : (nextS t s).1 = 42
  · have e : repeatS t s = ((0, -1), (nextS t s).2) := if_pos ha
    rw [e]
    clear e
    go_enter Try.func148, Try.ntmps148
    go_wp2_with fail
    refine (next_any b t s v _ h).mono ?_
    rintro e w1 ⟨rfl, h1, k1⟩
    go_wp2
    go_ret2
    exact ⟨rfl, h1, k1⟩
  by_cases hb : (nextS t s).1 = 43
  · have e : repeatS t s = ((1, -1), (nextS t s).2) := by unfold repeatS; rw [if_neg ha, if_pos hb]
    rw [e]
    clear e
    go_enter Try.func148, Try.ntmps148
    go_wp2_with fail
    refine (next_any b t s v _ h).mono ?_
    rintro e w1 ⟨rfl, h1, k1⟩
    go_wp2
    go_ret2
    exact ⟨rfl, h1, k1⟩
  by_cases hc : (nextS t s).1 = 63
  · have e : repeatS t s = ((0, 1), (nextS t s).2) := by unfold repeatS; rw [if_neg ha, if_neg hb, if_pos hc]
    rw [e]
    clear e
    go_enter Try.func148, Try.ntmps148
    go_wp2_with fail
    refine (next_any b t s v _ h).mono ?_
    rintro e w1 ⟨rfl, h1, k1⟩
    go_wp2
    go_ret2
    exact ⟨rfl, h1, k1⟩
  · have e : repeatS t s = bracesS t (nextS t s).2 := by unfold repeatS; rw [if_neg ha, if_neg hb, if_neg hc]
    have ha' : ((nextS t s).1 == 42) = false := by simpa using ha
    have hb' : ((nextS t s).1 == 43) = false := by simpa using hb
    have hc' : ((nextS t s).1 == 63) = false := by simpa using hc
    rw [e]
    clear e ha hb hc
    go_enter Try.func148, Try.ntmps148
    go_wp2_with fail
    refine (next_any b t s v _ h).mono ?_
    rintro e w1 ⟨rfl, h1, k1⟩
    go_wp2_with fail
    refine (braces_any b t _ v _ h1).mono ?_
    rintro e w2 ⟨rfl, h2, k2⟩
    go_wp2
    go_ret2
    exact ⟨rfl, h2, k1.trans k2⟩

end Go.Proofs.Ytgifhgnccmnbiaa

set_option linter.unusedVariables false
set_option linter.unusedSimpArgs false
namespace Go.Proofs.Ytgifhgnccmnbiaa
open Go.RowKit Go.IntWalk

/-- append TO A ROW OF THE CALL's OWN (nil, with room or without), as one step of a region that draws. -/
theorem step_append_owned {P : Program} {ops : Array Oper} {o : Oper} {a : Act} {w : World} {K : Act → World → Prop} {Q : Exit → Act → World → Prop} {E : Prop}
    (hg : o.guard = none) (s x : Operand) (t : TypeId) (hop : o.op = Op.call { callee := Callee.builtin Builtin.append, args := #[s, x], argTypes := #[t, t] })
    (e : TypeId) (i : TypeInfo) (z : Value) (size bytes : Nat) (h1 : P.underlying t = some (.slice e)) (h2 : P.info? e = some i) (h3 : i.zero = some z) (h4 : i.size = size) (h5 : i.bytes = bytes) (h6 : z.cells.size = size) (h7 : 0 < size)
    (base : Nat) (v : Value) (n : Nat) (xs : List Value) (hs : a.eval s = v) (hown : w.ownsRow base e size v n xs)
    (ad : Addr) (m c : Nat) (news : List Value) (hx : a.eval x = .slice (some ad) m c) (hn : news.length = m * size) (hc : ∀ j u, news[j]? = some u → w.cell? (ad.add j) = some u) (h1c : ∀ u ∈ news, u.oneCell' = true)
    (b1 : n + m ≤ maxLen) (b2 : (n + m) * bytes ≤ 140737488355328) (hbase : base ≤ w.heap.size)
    (hK : ∀ v' w', w'.ownsRow base e size v' (n + m) (xs ++ news) → w.grownBy w' v.ownBlock → K (a.put o.dst v') w') :
    if Region.wanted o (yielded ops a.tmps) = true then Oper.wp P o a w K Q else E := by
  have hw : Region.wanted o (yielded ops a.tmps) = true := by simp [Region.wanted, hg]
  rw [if_pos hw]
  obtain ⟨v', w', hrun, r1, r2, _⟩ := run_append_own (P := P) w base t o.type e i z size bytes h1 h2 h3 h4 h5 h6 h7 v n xs hown ad m c news hn hc h1c b1 b2 hbase
  unfold Oper.wp
  simp [execOp, hop, resolve, invoke, builtin, hs, hx, hrun, Result.andThen]
  exact hK v' w' r1 r2

/-- A slice as it lies in a cell: address, length, room. -/
abbrev IV := Option Addr × Nat × Nat
def ivV (x : IV) : Value := .slice x.1 x.2.1 x.2.2
def AN.cells (n : AN) (x : IV) : List Value :=
  [.int .i64 n.kind, .slice x.1 x.2.1 x.2.2, .bool n.neg, .int .i64 n.left, .int .i64 n.right, .int .i64 n.least, .int .i64 n.most, .int .i64 n.size]
def nodesCells : List AN → List IV → List Value
  | n :: ns, x :: xs => n.cells x ++ nodesCells ns xs
  | _, _ => []
def itemCells : List (Int × Int) → List Value
  | [] => []
  | x :: r => .int .i64 x.1 :: .int .i64 x.2 :: itemCells r

theorem nodesCells_length : ∀ (ns : List AN) (xs : List IV), xs.length = ns.length → (nodesCells ns xs).length = ns.length * 8
  | [], _, _ => by simp [nodesCells]
  | n :: ns, x :: xs, h => by simp [nodesCells, AN.cells, nodesCells_length ns xs (by simpa using h)]; omega
  | n :: ns, [], h => by simp at h
theorem nodesCells_snoc : ∀ (ns : List AN) (xs : List IV) (n : AN) (x : IV), xs.length = ns.length → nodesCells (ns ++ [n]) (xs ++ [x]) = nodesCells ns xs ++ n.cells x
  | [], [], n, x, _ => by simp [nodesCells]
  | [], _ :: _, n, x, h => by simp at h
  | m :: ns, y :: xs, n, x, h => by simp [nodesCells, nodesCells_snoc ns xs n x (by simpa using h)]
  | m :: ns, [], n, x, h => by simp at h
theorem nodesCells_get : ∀ (ns : List AN) (xs : List IV) (i j : Nat) (n : AN) (x : IV), ns[i]? = some n → xs[i]? = some x → j < 8 → (nodesCells ns xs)[i * 8 + j]? = (n.cells x)[j]?
  | [], _, i, j, n, x, h, _, _ => by simp at h
  | m :: ns, [], i, j, n, x, _, h, _ => by simp at h
  | m :: ns, y :: xs, 0, j, n, x, h, h', hj => by
    simp at h h'; subst h h'
    rw [nodesCells, Nat.zero_mul, Nat.zero_add, List.getElem?_append_left (by simp [AN.cells]; omega)]
  | m :: ns, y :: xs, i + 1, j, n, x, h, h', hj => by
    simp at h h'
    rw [nodesCells, List.getElem?_append_right (by simp [AN.cells]; omega)]
    have e : (i + 1) * 8 + j - (m.cells y).length = i * 8 + j := by simp [AN.cells]; omega
    rw [e]
    exact nodesCells_get ns xs i j n x h h' hj
theorem itemCells_length : ∀ l : List (Int × Int), (itemCells l).length = l.length * 2
  | [] => rfl
  | x :: r => by simp [itemCells, itemCells_length r]; omega
theorem itemCells_snoc : ∀ (l : List (Int × Int)) (x : Int × Int), itemCells (l ++ [x]) = itemCells l ++ [.int .i64 x.1, .int .i64 x.2]
  | [], x => rfl
  | y :: r, x => by simp [itemCells, itemCells_snoc r x]

/-- A node's items, in a row of their own. -/
def ItemsOk (w : World) (base : Nat) (x : IV) (its : List (Int × Int)) : Prop := w.ownsRow base 208 2 (ivV x) its.length (itemCells its)

/-- The reader with its nodes. -/
structure NV (w : World) (b : Nat) (t : ByteArray) (s : RS) (ns : List AN) (v : Value) (xs : List IV) : Prop where
  rd : RD w b t s v
  row : w.ownsRow (b + 1) 119 8 v ns.length (nodesCells ns xs)
  len : xs.length = ns.length
  items : ∀ (i : Nat) (n : AN) (x : IV), ns[i]? = some n → xs[i]? = some x → ItemsOk w (b + 1) x n.its
  sized : Sized ns
def NS (w : World) (b : Nat) (t : ByteArray) (st : PS) : Prop := ∃ v xs, NV w b t st.1 st.2 v xs

section
variable {w w' : World} {b : Nat} {t : ByteArray} {s s' : RS} {ns : List AN} {v : Value} {xs : List IV}
theorem own_ge {w : World} {base : Nat} {e : TypeId} {size : Nat} {v : Value} {n : Nat} {xs : List Value} (h : w.ownsRow base e size v n xs) {g : Nat} (hg : v.ownBlock = some g) : base ≤ g := (h.lt g hg).1

/-- Rows of two element types lie in two blocks. -/
theorem own_ne {w : World} {b1 b2 e1 e2 z1 z2 : Nat} {v1 v2 : Value} {n1 n2 : Nat} {x1 x2 : List Value} (h1 : w.ownsRow b1 e1 z1 v1 n1 x1) (h2 : w.ownsRow b2 e2 z2 v2 n2 x2) (he : e1 ≠ e2) :
    v1.ownBlock = none ∨ v1.ownBlock ≠ v2.ownBlock := by
  rcases h1.2 with ⟨rfl, _⟩ | ⟨g1, c1, u1, rfl, _, hg1, _⟩
  · exact Or.inl rfl
  · refine Or.inr (fun hc => ?_)
    rcases h2.2 with ⟨rfl, _⟩ | ⟨g2, c2, u2, rfl, _, hg2, _⟩
    · simp [Value.ownBlock] at hc
    · simp only [Value.ownBlock, Option.some.injEq] at hc
      subst hc
      rw [hg1] at hg2
      simp only [Option.some.injEq, Obj.cells.injEq] at hg2
      exact he hg2.2.1

/-- What a scanning step leaves: the reader's block alone has turned. -/
theorem NV.scan (h : NV w b t s ns v xs) (r : RD w' b t s' v) (k : Kept [b] w w') : NV w' b t s' ns v xs := by
  have gr : w.grownBy w' (some b) := ⟨k.os, k.tape, k.output, k.size, fun i hi hn => k.block i hi (by simpa using hn)⟩
  refine ⟨r, h.row.kept gr ?_, h.len, fun i n x hn hx => ?_, h.sized⟩
  · cases hv : v.ownBlock with
    | none => exact Or.inl rfl
    | some g => refine Or.inr ?_; have := own_ge h.row hv; simp; omega
  · have h1 := h.items i n x hn hx
    refine World.ownsRow.kept h1 gr ?_
    cases hv : (ivV x).ownBlock with
    | none => exact Or.inl rfl
    | some g => refine Or.inr ?_; have := own_ge h1 hv; simp; omega
end

set_option maxHeartbeats 400000 in
theorem size_any (b i : Nat) (t : ByteArray) (s : RS) (ns : List AN) (v : Value) (xs : List IV) (w : World) (h : NV w b t s ns v xs) (hi : i < ns.length) (hl : ns.length ≤ 1000) :
    Calls Try.prog 62 #[.pointer (some ⟨b, 0, none⟩), .int .i64 (i : Int)] w fun e w' => e = .returned (.int .i64 (sizeAt ns i)) ∧ w' = w := by
  have h2 := h.rd.c2
  obtain ⟨x, hx⟩ : ∃ x, xs[i]? = some x := by have := h.len; exact ⟨xs[i], List.getElem?_eq_getElem (by omega)⟩
  obtain ⟨n, hn⟩ : ∃ n, ns[i]? = some n := ⟨ns[i], List.getElem?_eq_getElem hi⟩
  have hget := nodesCells_get ns xs i 7 n x hn hx (by omega)
  have hv : ∃ g cap, v = .slice (some ⟨g, 0, none⟩) ns.length cap := by
    rcases h.row.2 with ⟨_, h⟩ | ⟨g, cap, _, h, _⟩
    · omega
    · exact ⟨g, cap, h⟩
  obtain ⟨g, cap, rfl⟩ := hv
  have hc : w.cell? ⟨g, i * 8 + 7, none⟩ = some (.int .i64 n.size) := by
    have := h.row.cells (g := g) rfl (i * 8 + 7) (.int .i64 n.size) (by rw [hget]; rfl)
    rwa [show (⟨g, 0, none⟩ : Addr).add (i * 8 + 7) = ⟨g, i * 8 + 7, none⟩ by simp [Addr.add]] at this
  have e : sizeAt ns i = n.size := by simp [sizeAt, hn]
  rw [e]
  clear hget e hn hx h
  go_enter Try.func62, Try.ntmps62
  go_wp2
  go_ret
  exact ⟨rfl, rfl⟩

end Go.Proofs.Ytgifhgnccmnbiaa

set_option linter.unusedVariables false
set_option linter.unusedSimpArgs false
namespace Go.Proofs.Ytgifhgnccmnbiaa
open Go.RowKit Go.IntWalk

theorem own_base {w : World} {base base' : Nat} {e : TypeId} {size : Nat} {v : Value} {n : Nat} {xs : List Value} (h : w.ownsRow base e size v n xs) (hb : base' ≤ base) : w.ownsRow base' e size v n xs := by
  refine ⟨h.1, ?_⟩
  rcases h.2 with h2 | ⟨g, c, u, h3, h4, r⟩
  · exact Or.inl h2
  · exact Or.inr ⟨g, c, u, h3, Nat.le_trans hb h4, r⟩

section
variable {P : Program} (w : World)
/-- append to a row of the call's own, AND WHERE THE RESULT LIES: in the old block, or in a new one. -/
theorem run_append_placed (base : Nat) (t ty e : TypeId) (i : TypeInfo) (z : Value) (size bytes : Nat) (ht : P.underlying t = some (.slice e)) (hi : P.info? e = some i) (hz : i.zero = some z)
    (hsize : i.size = size) (hby : i.bytes = bytes) (hzs : z.cells.size = size) (hsz : 0 < size)
    (v : Value) (n : Nat) (xs : List Value) (hown : w.ownsRow base e size v n xs)
    (a : Addr) (m c : Nat) (news : List Value) (hl : news.length = m * size) (hnews : ∀ j u, news[j]? = some u → w.cell? (a.add j) = some u) (h1 : ∀ u ∈ news, u.oneCell' = true)
    (h63 : n + m ≤ maxLen) (hbytes : (n + m) * bytes ≤ 140737488355328) (hbase : base ≤ w.heap.size) :
    ∃ v' w', (Builtin.append_ #[t, t] ty #[v, .slice (some a) m c]).run P w = .ok v' w' ∧ w'.ownsRow base e size v' (n + m) (xs ++ news) ∧ w.grownBy w' v.ownBlock ∧
      (v'.ownBlock = v.ownBlock ∨ ∀ g, v'.ownBlock = some g → w.heap.size ≤ g) := by
  rcases hown.2 with ⟨rfl, rfl⟩ | ⟨g, cap, cur, rfl, hbg, hg, hnc, hcm, hcs, htake⟩
  · have hx : xs = [] := List.eq_nil_of_length_eq_zero (by simpa using hown.1)
    subst hx
    obtain ⟨v', w', r, o, gr, _⟩ := run_append_own (P := P) w w.heap.size t ty e i z size bytes ht hi hz hsize hby hzs hsz (.slice none 0 0) 0 [] (World.ownsRow_nil w _ e size) a m c news hl hnews h1 h63 hbytes (Nat.le_refl _)
    exact ⟨v', w', r, own_base o hbase, gr, Or.inr (fun g hg => (o.lt g hg).1)⟩
  · by_cases hroom : n + m ≤ cap
    · obtain ⟨v', w', r, o, gr, _⟩ := run_append_own (P := P) w base t ty e i z size bytes ht hi hz hsize hby hzs hsz _ n xs hown a m c news hl hnews h1 h63 hbytes hbase
      subst hsize
      have hfit : n * i.size + news.length ≤ cur.size := by rw [hl, hcs, ← Nat.add_mul]; exact Nat.mul_le_mul_right _ hroom
      have hr := run_append_room (P := P) w t ty e i ht hi g n cap cur hg a m c news hl hnews h1 hroom hfit
      refine ⟨v', w', r, o, gr, Or.inl ?_⟩
      rw [hr] at r
      simp only [Result.ok.injEq] at r
      rw [← r.1]; rfl
    · have holds : ∀ j u, xs[j]? = some u → w.cell? ((⟨g, 0, none⟩ : Addr).add j) = some u := hown.cells (g := g) rfl
      obtain ⟨v', w', r, o, gr⟩ := run_append_arg_grows (P := P) w t ty e i z size bytes ht hi hz hsize hby hzs hsz ⟨g, 0, none⟩ n cap xs hown.1 holds a m c news hl hnews (by omega) h63 hbytes
      exact ⟨v', w', r, own_base o hbase, ⟨gr.os, gr.tape, gr.output, gr.size, fun k hk _ => gr.block k hk (by simp)⟩, Or.inr (fun g hg => (o.lt g hg).1)⟩
end

theorem wpList_append_placed {P : Program} {w : World} {ops : Array Oper} {rest : List Oper} {o : Oper} {a : Act} {Q : Exit → Act → World → Prop} (hgd : o.guard = none) (s x : Operand) (t : TypeId)
    (ho : o.op = .call { callee := .builtin .append, args := #[s, x], argTypes := #[t, t] })
    (base : Nat) (e : TypeId) (i : TypeInfo) (z : Value) (size bytes : Nat) (ht : P.underlying t = some (.slice e)) (hi : P.info? e = some i) (hz : i.zero = some z)
    (hsize : i.size = size) (hby : i.bytes = bytes) (hzs : z.cells.size = size) (hsz : 0 < size)
    (v : Value) (n : Nat) (xs : List Value) (hs : a.eval s = v) (hown : w.ownsRow base e size v n xs)
    (ad : Addr) (m c : Nat) (news : List Value) (hx : a.eval x = .slice (some ad) m c) (hl : news.length = m * size) (hnews : ∀ j u, news[j]? = some u → w.cell? (ad.add j) = some u) (h1 : ∀ u ∈ news, u.oneCell' = true)
    (h63 : n + m ≤ maxLen) (hbytes : (n + m) * bytes ≤ 140737488355328) (hbase : base ≤ w.heap.size)
    (h : ∀ v' w', w'.ownsRow base e size v' (n + m) (xs ++ news) → w.grownBy w' v.ownBlock → (v'.ownBlock = v.ownBlock ∨ ∀ g, v'.ownBlock = some g → w.heap.size ≤ g) → wpList P ops Q rest (a.put o.dst v') w') : wpList P ops Q (o :: rest) a w := by
  refine wpList_plain hgd fun K hK => ?_
  obtain ⟨v', w', hrun, r1, r2, r3⟩ := run_append_placed (P := P) w base t o.type e i z size bytes ht hi hz hsize hby hzs hsz v n xs hown ad m c news hl hnews h1 h63 hbytes hbase
  unfold Oper.wp
  simp [execOp, ho, resolve, invoke, builtin, hs, hx, hrun, Result.andThen]
  exact hK _ _ (h v' w' r1 r2 r3)

theorem getD_app {l more : List Nat} {k : Nat} (h : k < l.length) : (l ++ more).getD k 0 = l.getD k 0 := by
  simp [List.getD, List.getElem?_append_left h]
def ptrTo (adrs : List Nat) (k : Nat) : Value := .pointer (some ⟨adrs.getD k 0, 0, none⟩)

/-- A part, at block a; the blocks that it takes are among F. -/
structure PartOk (w : World) (F : Nat → Prop) (adrs : List Nat) (p : PN) (a : Nat) (iv kv : IV) : Prop where
  blk : Blk w a #[.int .i64 p.kind, .slice iv.1 iv.2.1 iv.2.2, .bool p.neg, .slice kv.1 kv.2.1 kv.2.2, .int .i64 p.least, .int .i64 p.most] 160
  mine : F a
  ins : (p.kind ≤ 3 ∧ ∃ g, iv = (some ⟨g, 0, none⟩, 256, 256) ∧ F g ∧ Blk w g (boolCells p.ins) 4) ∨ (3 < p.kind ∧ iv = (none, 0, 0))
  kids : w.ownsRow 0 60 1 (ivV kv) p.kids.length (p.kids.map (ptrTo adrs))
  kidsF : ∀ g, (ivV kv).ownBlock = some g → F g

/-- The reader and the parts. -/
structure RM (w : World) (b : Nat) (t : ByteArray) (s : RS) (ps : List PN) (adrs : List Nat) (F : Nat → Prop) : Prop where
  rr : RR w b t s
  len : adrs.length = ps.length
  part : ∀ (i : Nat) (p : PN), ps[i]? = some p → (∀ k, k ∈ p.kids → k < i) ∧ ∃ iv kv, PartOk w F adrs p (adrs.getD i 0) iv kv
  old : ∀ k, F k → k < w.heap.size ∧ k ≠ b

section
variable {w w' : World} {b a : Nat} {t : ByteArray} {s s' : RS} {ps : List PN} {adrs : List Nat} {F F' : Nat → Prop} {p : PN} {iv kv : IV}

theorem PartOk.frame (h : PartOk w F adrs p a iv kv) (hf : ∀ k, F k → w'.heap[k]? = w.heap[k]?) : PartOk w' F adrs p a iv kv := by
  refine ⟨(hf a h.mine).trans h.blk, h.mine, ?_, ?_, h.kidsF⟩
  · rcases h.ins with ⟨h1, g, h2, h3, h4⟩ | h5
    · exact Or.inl ⟨h1, g, h2, h3, (hf g h3).trans h4⟩
    · exact Or.inr h5
  · refine ⟨h.kids.1, ?_⟩
    rcases h.kids.2 with h1 | ⟨g, cap, cur, h1, h2, h3, r⟩
    · exact Or.inl h1
    · exact Or.inr ⟨g, cap, cur, h1, h2, (hf g (h.kidsF g (by rw [h1]; rfl))).trans h3, r⟩

theorem PartOk.wider (h : PartOk w F adrs p a iv kv) (hf : ∀ k, F k → F' k) {more : List Nat} (hk : ∀ k, k ∈ p.kids → k < adrs.length) : PartOk w F' (adrs ++ more) p a iv kv := by
  refine ⟨h.blk, hf a h.mine, ?_, ?_, fun g hg => hf g (h.kidsF g hg)⟩
  · rcases h.ins with ⟨h1, g, h2, h3, h4⟩ | h5
    · exact Or.inl ⟨h1, g, h2, hf g h3, h4⟩
    · exact Or.inr h5
  · have e : p.kids.map (ptrTo (adrs ++ more)) = p.kids.map (ptrTo adrs) := by
      apply List.map_congr_left
      intro k hk'
      unfold ptrTo
      rw [getD_app (hk k hk')]
    rw [e]
    exact h.kids

theorem RM.frame (h : RM w b t s ps adrs F) (hf : ∀ k, F k → w'.heap[k]? = w.heap[k]?) (r : RR w' b t s') (hs : w.heap.size ≤ w'.heap.size) : RM w' b t s' ps adrs F :=
  ⟨r, h.len, fun i p hp => ⟨(h.part i p hp).1, by obtain ⟨iv, kv, hk⟩ := (h.part i p hp).2; exact ⟨iv, kv, hk.frame hf⟩⟩, fun k hk => ⟨Nat.lt_of_lt_of_le (h.old k hk).1 hs, (h.old k hk).2⟩⟩

theorem RM.scan (h : RM w b t s ps adrs F) (r : RR w' b t s') (k : Kept [b] w w') : RM w' b t s' ps adrs F :=
  h.frame (fun i hi => k.block i (h.old i hi).1 (by simpa using (h.old i hi).2)) r k.size

/-- One part more. -/
theorem RM.push (h : RM w b t s ps adrs F) (hF : ∀ k, F k → F' k) (hold : ∀ k, F' k → k < w.heap.size ∧ k ≠ b) (hk : ∀ k, k ∈ p.kids → k < ps.length) (hp : PartOk w F' adrs p a iv kv) :
    RM w b t s (ps ++ [p]) (adrs ++ [a]) F' := by
  refine ⟨h.rr, by simp [h.len], fun i q hq => ?_, hold⟩
  by_cases hi : i < ps.length
  · rw [List.getElem?_append_left hi] at hq
    obtain ⟨h1, iv, kv, h2⟩ := h.part i q hq
    refine ⟨h1, iv, kv, ?_⟩
    rw [getD_app (by rw [h.len]; exact hi)]
    exact h2.wider hF (fun k hk => by have := h1 k hk; rw [h.len]; omega)
  · have hi2 : i = ps.length := by
      have := (List.getElem?_eq_some_iff.1 hq).1
      simp at this; omega
    subst hi2
    rw [List.getElem?_append_right (Nat.le_refl _), Nat.sub_self] at hq
    simp at hq
    subst hq
    refine ⟨hk, iv, kv, ?_⟩
    have e : (adrs ++ [a]).getD ps.length 0 = a := by rw [← h.len]; simp [List.getD]
    rw [e]
    exact hp.wider (fun k hk => hk) (fun k hk' => by rw [h.len]; exact hk k hk')
end

/-- What a call leaves in memory: the parts, some more than before, in new blocks. -/
structure RMem (w w' : World) (b : Nat) (t : ByteArray) (adrs : List Nat) (F : Nat → Prop) (r : Nat × RP) (pv : Value) : Prop where
  mem : ∃ (more : List Nat) (F' : Nat → Prop), RM w' b t r.2.1 r.2.2 (adrs ++ more) F' ∧ (∀ k, F k → F' k) ∧ (∀ k, F' k → F k ∨ w.heap.size ≤ k) ∧ pv = ptrTo (adrs ++ more) r.1
  kept : Kept [b] w w'
  idx : r.1 < r.2.2.length

end Go.Proofs.Ytgifhgnccmnbiaa
