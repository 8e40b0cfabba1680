/- The document's answer: members and lists. -/
import Derived.Test.YtgifhgnccmnbiaaRefScan
import Derived.Deep.DeepCutAuto
import Derived.Deep.Cut
import Derived.Deep.CutRange
set_option linter.unusedVariables false
set_option linter.unusedSimpArgs false
namespace Go.Proofs.Ytgifhgnccmnbiaa
open Go.RowKit Go.IntWalk

theorem stands1 (b : Nat) (t : ByteArray) (s : RS) (w : World) (h : RR w b t s) :
    Calls Try.prog 91 #[.pointer (some ⟨b, 0, none⟩), .string ⟨#[93]⟩] w fun e w' => e = .returned (.bool (stB t s [93])) ∧ RR w' b t s ∧ Kept [b] w w' := stands_any b t s _ w h (by decide)

set_option maxHeartbeats 400000 in
theorem rmember_any (b : Nat) (t : ByteArray) (s : RS) (w : World) (h : RR w b t s) :
    Calls Try.prog 161 #[.pointer (some ⟨b, 0, none⟩)] w fun e w' => e = .returned (.int .u8 (memR t s).1) ∧ RR w' b t (memR t s).2 ∧ Kept [b] w w' := by
  by_cases hq : stB t s [93] = true
  · have e : memR t s = tkS t (takeS t 92 (markS s)).2 := by unfold memR; rw [if_pos hq]
    rw [e]
    clear e
    go_enter Try.func161, Try.ntmps161
    go_wp2_with fail
    refine (stands1 b t s _ h).mono ?_
    rintro e w1 ⟨rfl, h1, k1⟩
    have c1 := h1.c1
    have f1 := h1.f 1
    have h2 : RR _ b t (markS s) := h1.mark
    go_wp2_with fail
    refine (rnext_any b 92 t _ _ h2 (by omega) (by omega)).mono ?_
    rintro e w3 ⟨rfl, h3, k3⟩
    go_wp2_with fail
    refine (rtake_any b t _ _ h3).mono ?_
    rintro e w4 ⟨rfl, h4, k4⟩
    go_wp2
    go_ret
    exact ⟨rfl, h4, ((k1.trans ((Kept.refl _ _).setCell (by simp) _)).trans k3).trans k4⟩
  · have e : memR t s = tkS t (takeS t 92 s).2 := by unfold memR; rw [if_neg hq]
    have hq : stB t s [93] = false := by simpa using hq
    rw [e]
    clear e
    go_enter Try.func161, Try.ntmps161
    go_wp2_with fail
    refine (stands1 b t s _ h).mono ?_
    rintro e w1 ⟨rfl, h1, k1⟩
    go_wp2_with fail
    refine (rnext_any b 92 t _ _ h1 (by omega) (by omega)).mono ?_
    rintro e w3 ⟨rfl, h3, k3⟩
    go_wp2_with fail
    refine (rtake_any b t _ _ h3).mono ?_
    rintro e w4 ⟨rfl, h4, k4⟩
    go_wp2
    go_ret
    exact ⟨rfl, h4, (k1.trans k3).trans k4⟩

/-- The 256 truths of a part. -/
def boolCells (f : Nat → Bool) : Array Value := ((List.range 256).map (fun i => Value.bool (f i))).toArray
theorem boolCells_get (f : Nat → Bool) {i : Nat} (h : i < 256) : (boolCells f)[i]? = some (.bool (f i)) := by simp [boolCells, h]
theorem boolCells_set (f f' : Nat → Bool) (i : Nat) (h : ∀ j, j < 256 → f' j = if j = i then true else f j) : (boolCells f).setIfInBounds i (.bool true) = boolCells f' := by
  apply Array.ext
  · simp [boolCells]
  · intro j h1 h2
    have hj : j < 256 := by simpa [boolCells] using h2
    rw [Array.getElem_setIfInBounds (by simpa [boolCells] using hj)]
    simp only [boolCells, List.getElem_toArray, List.getElem_map, List.getElem_range]
    rw [h j hj]
    by_cases hji : i = j
    · subst hji; simp
    · rw [if_neg hji, if_neg (by omega)]

/-- A part as it lies in memory. -/
def partCells (kind : Int) (ins : Value) (neg : Bool) (kids : Value) (least most : Int) : Array Value :=
  #[.int .i64 kind, ins, .bool neg, kids, .int .i64 least, .int .i64 most]

theorem sec_false1 {t : ByteArray} {s : RS} (h : ¬ s.1 + 1 < t.size) : secS t s = false := by
  unfold secS
  rw [pk_ge (p := s.1 + 1) h]
  simp
theorem sec_eq {t : ByteArray} {s : RS} (h : s.1 + 1 < t.size) : secS t s = ((t[s.1].toNat : Int) == 45 && ((t[s.1 + 1].toNat : Int) != 93)) := by
  unfold secS
  rw [pk_lt (p := s.1) (by omega), pk_lt h]
  have : ((t[s.1 + 1].toNat : Int) != -1) = true := by rw [bne_iff_ne]; omega
  rw [this]
  simp

/-- In the midst of a list. -/
structure LM (w0 w : World) (b a g : Nat) (t : ByteArray) (neg : Bool) (s : RS) (f : Nat → Bool) : Prop where
  rr : RR w b t s
  part : Blk w a #[.int .i64 1, .slice (some ⟨g, 0, none⟩) 256 256, .bool neg, .slice none 0 0, .int .i64 0, .int .i64 0] 160
  ins : Blk w g (boolCells f) 4
  kept : Kept [b, a, g] w0 w
section
variable {w0 w w' : World} {b a g : Nat} {t : ByteArray} {neg : Bool} {s s' : RS} {f f' : Nat → Bool}
theorem LM.scan (h : LM w0 w b a g t neg s f) (r : RR w' b t s') (k : Kept [b] w w') (ha : a ≠ b) (hg : g ≠ b) : LM w0 w' b a g t neg s' f :=
  ⟨r, h.part.kept k (by simpa using ha), h.ins.kept k (by simpa using hg), h.kept.trans (k.mono (by simp))⟩
theorem LM.c1 (h : LM w0 w b a g t neg s f) : w.cell? ⟨a, 1, none⟩ = some (.slice (some ⟨g, 0, none⟩) 256 256) := by rw [h.part.cell]; rfl
theorem LM.set (h : LM w0 w b a g t neg s f) (hg : g ≠ b) (hag : a ≠ g) (i : Nat) (hi : ∀ j, j < 256 → f' j = if j = i then true else f j) :
    LM w0 (w.setCell ⟨g, i, none⟩ (.bool true)) b a g t neg s f' :=
  ⟨⟨Blk.other h.rr.blk _ _ (by omega), h.rr.fits, h.rr.small⟩, Blk.other h.part _ _ hag, by rw [← boolCells_set f f' i hi]; exact h.ins.set i _, h.kept.setCell (by simp) _⟩
end

/-- How many rounds are left, read off the reader's cells. -/
def leftW (w : World) (b : Nat) : Nat := match w.cell? ⟨b, 1, none⟩, w.cell? ⟨b, 0, none⟩ with | some (.bool false), some (.string x) => x.size + 1 | _, _ => 0
theorem leftW_eq {w : World} {b : Nat} {t : ByteArray} {s : RS} (h : RR w b t s) : leftW w b = leftR t s := by
  unfold leftW leftR
  rw [h.c0, h.c1]
  cases s.2 with
  | false => simp [sfx_size]
  | true => simp

set_option maxHeartbeats 4000000 in
set_option maxRecDepth 100000 in
theorem rlist_any (b a g : Nat) (t : ByteArray) (s : RS) (w : World) (h : RR w b t s)
    (ha : Blk w a #[.int .i64 1, .slice (some ⟨g, 0, none⟩) 256 256, .bool false, .slice none 0 0, .int .i64 0, .int .i64 0] 160) (hg : Blk w g (boolCells (fun _ => false)) 4)
    (hab : a ≠ b) (hgb : g ≠ b) (hag : a ≠ g) :
    Calls Try.prog 150 #[.pointer (some ⟨b, 0, none⟩), .pointer (some ⟨a, 0, none⟩)] w fun e w' => e = .returned (.tuple #[]) ∧
      LM w w' b a g t (takeS t 94 s).1 (itemsR t (takeS t 94 s).2 (fun _ => false)).1 (itemsR t (takeS t 94 s).2 (fun _ => false)).2 := by
  have hsm : Hid (t.size ≤ 40) := h.small
  go_enter Try.func150, Try.ntmps150
  go_wp2_with fail
  refine (rnext_any b 94 t s _ h (by omega) (by omega)).mono ?_
  rintro e w1 ⟨rfl, h1, k1⟩
  have a1 := ha.kept k1 (by simpa using hab)
  have g1 := hg.kept k1 (by simpa using hgb)
  have q0 := a1.frozen 2
  have q1 := a1.cell 2
  have m1 : LM w (w1.setCell ⟨a, 2, none⟩ (.bool (takeS t 94 s).1)) b a g t (takeS t 94 s).1 (takeS t 94 s).2 (fun _ => false) :=
    ⟨⟨Blk.other h1.blk _ _ (Ne.symm hab), h1.fits, h1.small⟩, a1.set 2 _, Blk.other g1 _ _ (Ne.symm hag), (k1.mono (by simp)).setCell (by simp) _⟩
  clear h ha hg h1 a1 g1
  go_wp2_with fail
  go_loopw [4] (fun cl wr => ∃ (c : Bool) (s' : RS) (f' : Nat → Bool), cl = .bool c ∧ LM w wr b a g t (takeS t 94 s).1 s' f' ∧ ((c = false ∧ itemsR t s' f' = itemsR t (takeS t 94 s).2 (fun _ => false)) ∨ (c = true ∧ (s', f') = itemsR t (takeS t 94 s).2 (fun _ => false))))
    (fun _ wr => leftW wr b)
  case atStart => exact ⟨false, _, _, rfl, m1, Or.inl ⟨rfl, rfl⟩⟩
  case round =>
    obtain ⟨c, s', f', rfl, m, hc⟩ := hrel
    obtain ⟨wo, rfl⟩ : ∃ wo : World, wo = wr := ⟨_, rfl⟩
    have hlw : Hid (_ = _) := leftW_eq m.rr
    rcases hc with ⟨rfl, hc⟩ | ⟨rfl, hc⟩
    case inr =>
      have hc : Hid (_ = _) := hc
      go_wp2
      go_end0
      refine ⟨rfl, ?_⟩
      rw [← hc.out]
      exact m
    have c1 := m.rr.c1
    by_cases hbad : s'.2 = true
    · have hc : Hid ((s', f') = itemsR t (takeS t 94 s).2 (fun _ => false)) := (itemsR_bad hbad).symm.trans hc
      rw [hbad] at c1
      clear hbad
      go_wp2
      go_end0
      refine ⟨rfl, ?_⟩
      rw [← hc.out]
      exact m
    have hbad : s'.2 = false := by simpa using hbad
    have hfit := m.rr.fits
    have hdown : Hid (_ < _) := leftR_down (f := f') hfit hbad
    have hcE : Hid (∀ hcl : (takeS t 93 (itemR t s' f').1).1 = true, _) := fun hcl => (itemsR_end hbad hcl).symm.trans hc
    have hcO : Hid (∀ hcl : (takeS t 93 (itemR t s' f').1).1 = false, _) := fun hcl => (itemsR_on hfit hbad hcl).symm.trans hc
    rw [hbad] at c1
    clear hbad hc
    go_wp2_with fail
    refine (rmember_any b t s' _ m.rr).mono ?_
    rintro e w2 ⟨rfl, h2, k2⟩
    have m2 := m.scan h2 k2 hab hgb
    have c2 := m2.rr.c0
    go_upto_region 5 with fail
    go_cut [46] (fun s46 wx => s46 = .bool (secS t (memR t s').2) ∧ wx = w2)
    case first =>
      by_cases hp : (memR t s').2.1 + 1 < t.size
      · have hl : (1 : Int) < ((sfx t (memR t s').2.1).size : Int) := by rw [sfx_size]; omega
        have hl' : 1 < (sfx t (memR t s').2.1).size := by omega
        have hg0 := sfx_get (t := t) (p := (memR t s').2.1) (k := 0) (by omega) (by omega)
        have hg1 := sfx_get (t := t) (p := (memR t s').2.1) (k := 1) (by omega) (by omega)
        have hse := sec_eq (t := t) (s := (memR t s').2) hp
        cases e0 : ((t[(memR t s').2.1].toNat : Int) == 45) with
        | false =>
          rw [e0, Bool.false_and] at hse
          have hse : Hid (_ = _) := hse
          go_wp2
          all_goals go_meet
          all_goals exact ⟨by rw [hse.out], rfl⟩
        | true =>
          cases e1 : ((t[(memR t s').2.1 + 1].toNat : Int) != 93) with
          | false =>
            rw [e0, e1, Bool.true_and] at hse
            have hse : Hid (_ = _) := hse
            go_wp2
            all_goals go_meet
            all_goals exact ⟨by rw [hse.out], rfl⟩
          | true =>
            rw [e0, e1, Bool.true_and] at hse
            have hse : Hid (_ = _) := hse
            go_wp2
            all_goals go_meet
            all_goals exact ⟨by rw [hse.out], rfl⟩
      · have hl : ¬ (1 : Int) < ((sfx t (memR t s').2.1).size : Int) := by rw [sfx_size]; omega
        have hse : Hid (_ = _) := sec_false1 (t := t) (s := (memR t s').2) hp
        go_wp2
        all_goals go_meet
        all_goals refine ⟨?_, rfl⟩
        all_goals rw [hse.out]
    case rest =>
      obtain ⟨rfl, rfl⟩ := hcut
      go_upto_if 46 with fail
      have hfit2 := h2.fits
      go_cut [6] (fun s6 wx => s6 = .int .u8 (toR t s').1 ∧ LM w wx b a g t (takeS t 94 s).1 (toR t s').2 f')
      case first =>
        go_wp2_with fail
        · have hq : secS t (memR t s').2 = true := by assumption
          have e : Hid (_ = _) := show toR t s' = memR t (tkS t (memR t s').2).2 from if_pos hq
          refine (rtake_any b t _ _ h2).mono ?_
          rintro e1 w3 ⟨rfl, h3, k3⟩
          go_wp2_with fail
          refine (rmember_any b t _ _ h3).mono ?_
          rintro e1 w4 ⟨rfl, h4, k4⟩
          go_wp2_with fail
          go_meet
          rw [e.out]
          exact ⟨rfl, m2.scan h4 (k3.trans k4) hab hgb⟩
        · have hq : secS t (memR t s').2 = false := by assumption
          have e : Hid (_ = _) := show toR t s' = memR t s' from if_neg (by rw [hq]; decide)
          go_meet
          rw [e.out]
          exact ⟨rfl, m2⟩
      case rest =>
        obtain ⟨rfl, m3⟩ := hcut
        clear m2 k2 h2 c2 m hfit2
        go_upto_if 53 with fail
        have r1 := m3.rr.c1
        have r2 := m3.rr.f 1
        go_cut [] (fun wx => LM w wx b a g t (takeS t 94 s).1 (itemR t s' f').1 f')
        case first =>
          go_wp2_with fail
          · have hq : (toR t s').1 < (memR t s').1 := by assumption
            have e : Hid ((itemR t s' f').1 = markS (toR t s').2) := if_pos hq
            go_meet
            rw [e.out]
            exact ⟨m3.rr.mark, Blk.other m3.part _ _ hab, Blk.other m3.ins _ _ hgb, m3.kept.setCell (by simp) _⟩
          · have hq : ¬ (toR t s').1 < (memR t s').1 := by omega
            have e : Hid ((itemR t s' f').1 = (toR t s').2) := if_neg hq
            go_meet
            rw [e.out]
            exact m3
        case rest =>
          have m4 := hcut
          clear hcut m3 r1 r2
          have bd1 := memR_bd t s'
          have bd2 := toR_bd t s'
          go_wp2_with fail
          go_loopw [7] (fun c wr => ∃ k : Int, c = .int .i64 k ∧ (memR t s').1 ≤ k ∧ (k ≤ (toR t s').1 + 1 ∨ k = (memR t s').1) ∧ LM w wr b a g t (takeS t 94 s).1 (itemR t s' f').1 (fillB f' (memR t s').1 (k - 1)))
            (fun c _ => ((toR t s').1 + 1 - intOf c).toNat)
          case atStart =>
            refine ⟨_, rfl, Int.le_refl _, Or.inr rfl, ?_⟩
            have e : fillB f' (memR t s').1 ((memR t s').1 - 1) = f' := by
              funext i
              unfold fillB
              rw [decide_eq_false (by omega), Bool.or_false]
            rw [e]
            exact m4
          case round =>
            obtain ⟨k, rfl, hk1, hk2, m5⟩ := hrel
            have d1 := m5.c1
            obtain ⟨n, rfl⟩ := Int.eq_ofNat_of_zero_le (show 0 ≤ k by omega)
            by_cases hle : (n : Int) ≤ (toR t s').1
            · have hn : n < 256 := by omega
              have d2 : wr.cell? ⟨g, n, none⟩ = some (.bool (fillB f' (memR t s').1 ((n : Int) - 1) n)) := by rw [m5.ins.cell, boolCells_get _ hn]
              have d3 := m5.ins.frozen n
              have m6 := m5.set (f' := fillB f' (memR t s').1 (((n + 1 : Nat) : Int) - 1)) hgb hag n (fun j hj => by
                unfold fillB
                by_cases hjn : j = n
                · subst hjn
                  rw [if_pos rfl, decide_eq_true (by omega), Bool.or_true]
                · rw [if_neg hjn]
                  congr 1
                  apply decide_eq_decide.2
                  omega)
              have m6 : Hid (LM _ _ _ _ _ _ _ _ _) := m6
              go_wp2
              refine ⟨⟨((n + 1 : Nat) : Int), by go_num, by omega, by omega, m6.out⟩, ?_⟩
              simp only [intOf]
              omega
            · have e : fillB f' (memR t s').1 ((n : Int) - 1) = (itemR t s' f').2 := by
                show _ = fillB f' (memR t s').1 (toR t s').1
                funext i
                unfold fillB
                congr 1
                apply decide_eq_decide.2
                omega
              rw [e] at m5
              clear e
              go_wp2_with fail
              refine (rnext_any b 93 t _ _ m5.rr (by omega) (by omega)).mono ?_
              rintro e1 w7 ⟨rfl, h7, k7⟩
              have m7 := m5.scan h7 k7 hab hgb
              have hlw7 := leftW_eq h7
              have hlw7 : Hid (_ = _) := hlw7
              go_wp2
              refine ⟨⟨_, _, _, rfl, m7, ?_⟩, by rw [hlw7.out, hlw.out]; exact hdown.out⟩
              cases hcl : (takeS t 93 (itemR t s' f').1).1 with
              | false => exact Or.inl ⟨rfl, hcO.out hcl⟩
              | true => exact Or.inr ⟨rfl, hcE.out hcl⟩

end Go.Proofs.Ytgifhgnccmnbiaa
