/- The document's answer: the bounds of a repeat. -/
import Derived.Test.YtgifhgnccmnbiaaRefList
set_option linter.unusedVariables false
set_option linter.unusedSimpArgs false
namespace Go.Proofs.Ytgifhgnccmnbiaa
open Go.RowKit Go.IntWalk

/-- In the midst of a repeat's bounds. -/
structure BM (w0 w : World) (b a : Nat) (t : ByteArray) (kv : Value) (s : RS) (least most : Int) : Prop where
  rr : RR w b t s
  part : Blk w a #[.int .i64 6, .slice none 0 0, .bool false, kv, .int .i64 least, .int .i64 most] 160
  kept : Kept [b, a] w0 w
section
variable {w0 w w' : World} {b a : Nat} {t : ByteArray} {kv : Value} {s s' : RS} {l m : Int}
theorem BM.scan (h : BM w0 w b a t kv s l m) (r : RR w' b t s') (k : Kept [b] w w') (ha : a ≠ b) : BM w0 w' b a t kv s' l m :=
  ⟨r, h.part.kept k (by simpa using ha), h.kept.trans (k.mono (by simp))⟩
theorem BM.least (h : BM w0 w b a t kv s l m) (ha : a ≠ b) (x : Int) : BM w0 (w.setCell ⟨a, 4, none⟩ (.int .i64 x)) b a t kv s x m :=
  ⟨⟨Blk.other h.rr.blk _ _ (Ne.symm ha), h.rr.fits, h.rr.small⟩, h.part.set 4 _, h.kept.setCell (by simp) _⟩
theorem BM.most (h : BM w0 w b a t kv s l m) (ha : a ≠ b) (x : Int) : BM w0 (w.setCell ⟨a, 5, none⟩ (.int .i64 x)) b a t kv s l x :=
  ⟨⟨Blk.other h.rr.blk _ _ (Ne.symm ha), h.rr.fits, h.rr.small⟩, h.part.set 5 _, h.kept.setCell (by simp) _⟩
theorem BM.mark (h : BM w0 w b a t kv s l m) (ha : a ≠ b) : BM w0 (w.setCell ⟨b, 1, none⟩ (.bool true)) b a t kv (markS s) l m :=
  ⟨h.rr.mark, Blk.other h.part _ _ ha, h.kept.setCell (by simp) _⟩
theorem BM.drewN (h : BM w0 w b a t kv s l m) (n : Nat) : BM w0 (w.drewN n) b a t kv s l m := ⟨⟨h.rr.blk, h.rr.fits, h.rr.small⟩, h.part, h.kept.drewN n⟩
theorem BM.c4 (h : BM w0 w b a t kv s l m) : w.cell? ⟨a, 4, none⟩ = some (.int .i64 l) := by rw [h.part.cell]; rfl
theorem BM.c5 (h : BM w0 w b a t kv s l m) : w.cell? ⟨a, 5, none⟩ = some (.int .i64 m) := by rw [h.part.cell]; rfl
end

theorem bndMost_end {t : ByteArray} {s : RS} (h1 : (takeS t 44 (tkS t s).2).1 = true) (h2 : (takeS t 125 (takeS t 44 (tkS t s).2).2).1 = true) :
    bndMost t s = (-1, takeS t 125 (takeS t 44 (tkS t s).2).2) := by unfold bndMost; simp only []; rw [if_pos ⟨h1, h2⟩]
theorem bndMost_two {t : ByteArray} {s : RS} (h1 : (takeS t 44 (tkS t s).2).1 = true) (h2 : (takeS t 125 (takeS t 44 (tkS t s).2).2).1 = false) :
    bndMost t s = (let n := tkS t (takeS t 125 (takeS t 44 (tkS t s).2).2).2
      let e := takeS t 125 n.2
      (n.1 - 48, (e.1, if n.1 < 48 ∨ 57 < n.1 ∨ n.1 - 48 < (tkS t s).1 - 48 then markS e.2 else e.2))) := by
  unfold bndMost; simp only []; rw [if_neg (by rw [h2]; simp), if_pos h1]
theorem bndMost_one {t : ByteArray} {s : RS} (h1 : (takeS t 44 (tkS t s).2).1 = false) : bndMost t s = ((tkS t s).1 - 48, takeS t 125 (takeS t 44 (tkS t s).2).2) := by
  unfold bndMost; simp only []; rw [if_neg (by rw [h1]; simp), if_neg (by rw [h1]; simp)]

set_option maxHeartbeats 4000000 in
set_option maxRecDepth 100000 in
theorem rbounds_any (b a : Nat) (t : ByteArray) (kv : Value) (s : RS) (w : World) (h : RR w b t s)
    (ha : Blk w a #[.int .i64 6, .slice none 0 0, .bool false, kv, .int .i64 0, .int .i64 (-1)] 160) (hab : a ≠ b) :
    Calls Try.prog 130 #[.pointer (some ⟨b, 0, none⟩), .pointer (some ⟨a, 0, none⟩)] w fun e w' => e = .returned (.tuple #[]) ∧
      BM w w' b a t kv (bndR t s).2 (bndR t s).1.1 (bndR t s).1.2 := by
  have bd1 := tk_bd t s
  have m0 : BM w w b a t kv s 0 (-1) := ⟨h, ha, Kept.refl _ _⟩
  clear ha
  go_enter Try.func130, Try.ntmps130
  go_wp2_with fail
  refine (rtake_any b t s _ h).mono ?_
  rintro e w1 ⟨rfl, h1, k1⟩
  have m1 := m0.scan h1 k1 hab
  have q1 := m1.c4
  have q2 := m1.c5
  have q3 := m1.part.frozen 4
  have q4 := m1.part.frozen 5
  have m2 := (m1.least hab ((tkS t s).1 - 48)).most hab ((tkS t s).1 - 48)
  clear h m0 h1 k1
  go_wp2_with fail
  refine (rnext_any b 44 t _ _ m2.rr (by omega) (by omega)).mono ?_
  rintro e w3 ⟨rfl, h3, k3⟩
  have m3 := m2.scan h3 k3 hab
  go_wp2_with fail
  refine (rnext_any b 125 t _ _ m3.rr (by omega) (by omega)).mono ?_
  rintro e w4 ⟨rfl, h4, k4⟩
  have m4 := m3.scan h4 k4 hab
  clear m1 m2 m3 h3 h4 k3 k4 q1 q2 q3 q4
  have q3 := m4.part.frozen 4
  have q4 := m4.part.frozen 5
  have q1 := m4.c4
  have q2 := m4.c5
  go_upto_region 5 with fail
  go_cut [5, 6, 30] (fun s5 s6 s30 wx => s5 = .bool (takeS t 44 (tkS t s).2).1 ∧ s6 = .bool (takeS t 125 (takeS t 44 (tkS t s).2).2).1 ∧ s30 = .bool ((takeS t 44 (tkS t s).2).1 && (takeS t 125 (takeS t 44 (tkS t s).2).2).1) ∧ wx = w4)
  case first =>
    cases hc : (takeS t 44 (tkS t s).2).1 with
    | false =>
      go_wp2
      go_meet
      exact ⟨by rw [hc], rfl, by rw [hc]; rfl, rfl⟩
    | true =>
      go_wp2
      go_meet
      exact ⟨by rw [hc], rfl, by rw [hc]; rfl, rfl⟩
  case rest =>
    obtain ⟨rfl, rfl, rfl, rfl⟩ := hcut
    go_upto_if 30 with fail
    go_cut [5, 6, 7] (fun s5 s6 s7 wx => s5 = .bool (takeS t 44 (tkS t s).2).1 ∧ s6 = .bool (bndMost t s).2.1 ∧ BM w wx b a t kv (bndMost t s).2.2 ((tkS t s).1 - 48) (bndMost t s).1)
    case first =>
      go_wp2_with fail
      · have hcd : (takeS t 44 (tkS t s).2).1 = true ∧ (takeS t 125 (takeS t 44 (tkS t s).2).2).1 = true := by assumption
        have e : Hid (_ = _) := bndMost_end hcd.1 hcd.2
        have m5 := m4.most hab (-1)
        go_meet
        rw [e.out]
        exact ⟨rfl, by rw [hcd.2], m5⟩
      · have hc : (takeS t 44 (tkS t s).2).1 = true := by assumption
        have hd : (takeS t 125 (takeS t 44 (tkS t s).2).2).1 = false := by
          have hor : (takeS t 44 (tkS t s).2).1 = false ∨ (takeS t 125 (takeS t 44 (tkS t s).2).2).1 = false := by assumption
          rcases hor with hx | hx
          · rw [hc] at hx; cases hx
          · exact hx
        have e : Hid (_ = _) := bndMost_two hc hd
        have bdn := tk_bd t (takeS t 125 (takeS t 44 (tkS t s).2).2).2
        refine (rtake_any b t _ _ m4.rr).mono ?_
        rintro e5 w5 ⟨rfl, h5, k5⟩
        have m5 := m4.scan h5 k5 hab
        have g1 := m5.c5
        have g2 := m5.part.frozen 5
        have m6 := m5.most hab ((tkS t (takeS t 125 (takeS t 44 (tkS t s).2).2).2).1 - 48)
        go_wp2_with fail
        refine (rnext_any b 125 t _ _ m6.rr (by omega) (by omega)).mono ?_
        rintro e7 w7 ⟨rfl, h7, k7⟩
        have m7 := m6.scan h7 k7 hab
        clear m4 m5 m6 g1 g2 q1 q2 q3 q4
        have g1 := m7.c5
        have g2 := m7.c4
        have g3 := m7.rr.c1
        have g4 := m7.rr.f 1
        have mk := fun n => (m7.drewN n).mark hab
        generalize hn : (tkS t (takeS t 125 (takeS t 44 (tkS t s).2).2).2) = n at *
        have hn : Hid (_ = _) := hn
        have hc : Hid (_ = _) := hc
        go_upto_region 11 with fail
        go_cut [61] (fun s61 wx => s61 = .bool (decide (n.1 < 48) || decide (57 < n.1) || decide (n.1 - 48 < (tkS t s).1 - 48)) ∧ ∃ k, wx = w7.drewN k)
        case first =>
          clear m7 mk g3 g4 k7 h7 h5 e hn
          by_cases l1 : n.1 < 48
          · have d1 : decide (n.1 < 48) = true := by simpa using l1
            go_quiet (fail)
            try go_wp2_with fail
            go_meet
            exact ⟨by simp [l1], _, rfl⟩
          have d1 : decide (n.1 < 48) = false := by simpa using l1
          by_cases l2 : 57 < n.1
          · have d2 : decide (57 < n.1) = true := by simpa using l2
            go_quiet (fail)
            try go_wp2_with fail
            go_meet
            exact ⟨by simp [l2], _, rfl⟩
          have d2 : decide (57 < n.1) = false := by simpa using l2
          go_quiet (fail)
          try go_wp2_with fail
          go_meet
          exact ⟨by rw [d1, d2, Bool.false_or, Bool.false_or]; congr 1; apply decide_eq_decide.2; omega, _, rfl⟩
        case rest =>
          obtain ⟨rfl, k, rfl⟩ := hcut
          have g3 : (w7.drewN k).cell? ⟨b, 1, none⟩ = some (.bool (takeS t 125 n.2).2.2) := g3
          have g4 : (w7.drewN k).frozen? ⟨b, 1, none⟩ = false := g4
          go_wp2_with fail
          · go_meet
            rw [e.out]
            simp only []
            rw [if_pos (by omega)]
            exact ⟨by rw [hc.out], by first | rfl | trivial, mk _⟩
          · go_meet
            rw [e.out]
            simp only []
            rw [if_neg (by omega)]
            exact ⟨by rw [hc.out], by first | rfl | trivial, m7.drewN _⟩
      · have hc : (takeS t 44 (tkS t s).2).1 = false := by assumption
        have e : Hid (_ = _) := bndMost_one hc
        go_meet
        rw [e.out]
        exact ⟨rfl, rfl, m4⟩
    case rest =>
      obtain ⟨rfl, rfl, m5⟩ := hcut
      have g3 := m5.rr.c1
      have g4 := m5.rr.f 1
      have mk := m5.mark hab
      by_cases l1 : (tkS t s).1 < 48
      · have e : Hid ((bndR t s).2 = markS (bndMost t s).2.2) := if_pos (Or.inl l1)
        go_wp2
        go_end0
        refine ⟨rfl, ?_⟩
        rw [e.out]
        exact mk
      by_cases l2 : 57 < (tkS t s).1
      · have e : Hid ((bndR t s).2 = markS (bndMost t s).2.2) := if_pos (Or.inr (Or.inl l2))
        go_wp2
        go_end0
        refine ⟨rfl, ?_⟩
        rw [e.out]
        exact mk
      cases hcl : (bndMost t s).2.1 with
      | false =>
        have e : Hid ((bndR t s).2 = markS (bndMost t s).2.2) := if_pos (Or.inr (Or.inr hcl))
        go_wp2
        go_end0
        refine ⟨rfl, ?_⟩
        rw [e.out]
        exact mk
      | true =>
        have e : Hid ((bndR t s).2 = (bndMost t s).2.2) := if_neg (by rw [hcl]; simp; omega)
        go_wp2
        go_end0
        refine ⟨rfl, ?_⟩
        rw [e.out]
        exact m5

end Go.Proofs.Ytgifhgnccmnbiaa
