/- The reader of patterns: items of a list, braces, repeats. -/
import Derived.Test.YtgifhgnccmnbiaaRd2
set_option linter.unusedVariables false
set_option linter.unusedSimpArgs false
namespace Go.Proofs.Ytgifhgnccmnbiaa
open Go.RowKit Go.IntWalk

set_option maxHeartbeats 1000000 in
theorem item_any (b : Nat) (t : ByteArray) (s : RS) (v : Value) (w : World) (h : RD w b t s v) :
    Calls Try.prog 163 #[.pointer (some ⟨b, 0, none⟩)] w fun e w' =>
      e = .returned (.agg #[.int .i64 (itemS t s).1.1, .int .i64 (itemS t s).1.2]) ∧ RD w' b t (itemS t s).2 v ∧ Kept [b] w w' := by
  have hbw : b < w.heap.size := h.blk.lt
  have hz : RD (w.alloc (.cells #[.int .i64 0, .int .i64 0] 208)) b t s v := h.kept (Kept.alloc (Kept.refl [] w) _) (by simp)
  have kz : Kept [b] w (w.alloc (.cells #[.int .i64 0, .int .i64 0] 208)) := Kept.alloc (Kept.refl _ w) _
  have bz : Blk (w.alloc (.cells #[.int .i64 0, .int .i64 0] 208)) w.heap.size #[.int .i64 0, .int .i64 0] 208 := Blk.new _ _ _
  clear h
  have fin : ∀ (x : World) (lo hi : Int) (s' : RS), RD x b t s' v → Kept [b] w x → Blk x w.heap.size #[.int .i64 0, .int .i64 0] 208 →
      ((x.setCell ⟨w.heap.size, 0, none⟩ (.int .i64 lo)).setCell ⟨w.heap.size, 1, none⟩ (.int .i64 hi)).cell? ⟨w.heap.size, 0, none⟩ = some (.int .i64 lo) ∧
      ((x.setCell ⟨w.heap.size, 0, none⟩ (.int .i64 lo)).setCell ⟨w.heap.size, 1, none⟩ (.int .i64 hi)).cell? ⟨w.heap.size, 1, none⟩ = some (.int .i64 hi) ∧
      RD ((x.setCell ⟨w.heap.size, 0, none⟩ (.int .i64 lo)).setCell ⟨w.heap.size, 1, none⟩ (.int .i64 hi)) b t s' v ∧
      Kept [b] w ((x.setCell ⟨w.heap.size, 0, none⟩ (.int .i64 lo)).setCell ⟨w.heap.size, 1, none⟩ (.int .i64 hi)) := by
    intro x lo hi s' hr hk hb
    have hb2 := (hb.set 0 (.int .i64 lo)).set 1 (.int .i64 hi)
    refine ⟨by rw [hb2.cell]; rfl, by rw [hb2.cell]; rfl, ⟨Blk.other (Blk.other hr.blk _ _ (by omega)) _ _ (by omega), hr.fits, hr.small⟩, (hk.setCell (Or.inr (Nat.le_refl _)) _).setCell (Or.inr (Nat.le_refl _)) _⟩
  by_cases hq : secS t (memS t s).2 = true
  · have e1 : highS t s = memS t ((memS t s).2.1 + 1, (memS t s).2.2) := if_pos hq
    have hl : (memS t s).2.1 < t.size := fits_sec hq
    by_cases hc : (highS t s).1 < (memS t s).1
    · have e2 : itemS t s = (((memS t s).1, (highS t s).1), failS t) := by unfold itemS; rw [if_pos hc]
      rw [e2]
      rw [e1] at hc ⊢
      clear e1 e2
      go_enter Try.func163, Try.ntmps163
      go_wp2_with fail
      refine (member_any b t s v _ hz).mono ?_
      rintro e w1 ⟨rfl, h1, k1⟩
      go_wp2_with fail
      refine (atSec_any b t _ v _ h1).mono ?_
      rintro e w1 ⟨rfl, rfl⟩
      have q1 := h1.c1
      have q2 := h1.f 1
      have hsm := h1.small
      go_wp2_with fail
      refine (member_any b t _ v _ (h1.upto _ hl)).mono ?_
      rintro e w2 ⟨rfl, h2, k2⟩
      go_wp2_with fail
      refine (fail_any b t _ v _ h2).mono ?_
      rintro e w3 ⟨rfl, h3, k3⟩
      have kk := (k1.trans (((Kept.refl _ _).setCell (by simp) _).trans k2)).trans k3
      have b3 := bz.kept kk (by simp; omega)
      have g0 := b3.frozen 0
      have g1 := b3.frozen 1
      have g2 := b3.cell 0
      have g3 := b3.cell 1
      obtain ⟨r0, r1, r2, r3⟩ := fin w3 (memS t s).1 _ _ h3 (kz.trans kk) b3
      go_wp2
      exact bodyPost_ret (v := .agg #[.int .i64 _, .int .i64 _]) (by simp [results, Try.results163, go_sem, r0, r1]) rfl ⟨rfl, r2, r3⟩
    · have e2 : itemS t s = (((memS t s).1, (highS t s).1), (highS t s).2) := by unfold itemS; rw [if_neg hc]
      rw [e2]
      rw [e1] at hc ⊢
      clear e1 e2
      go_enter Try.func163, Try.ntmps163
      go_wp2_with fail
      refine (member_any b t s v _ hz).mono ?_
      rintro e w1 ⟨rfl, h1, k1⟩
      go_wp2_with fail
      refine (atSec_any b t _ v _ h1).mono ?_
      rintro e w1 ⟨rfl, rfl⟩
      have q1 := h1.c1
      have q2 := h1.f 1
      have hsm := h1.small
      go_wp2_with fail
      refine (member_any b t _ v _ (h1.upto _ hl)).mono ?_
      rintro e w2 ⟨rfl, h2, k2⟩
      have kk := k1.trans (((Kept.refl _ _).setCell (by simp) _).trans k2)
      have b3 := bz.kept kk (by simp; omega)
      have g0 := b3.frozen 0
      have g1 := b3.frozen 1
      have g2 := b3.cell 0
      have g3 := b3.cell 1
      obtain ⟨r0, r1, r2, r3⟩ := fin w2 (memS t s).1 _ _ h2 (kz.trans kk) b3
      go_wp2
      exact bodyPost_ret (v := .agg #[.int .i64 _, .int .i64 _]) (by simp [results, Try.results163, go_sem, r0, r1]) rfl ⟨rfl, r2, r3⟩
  · have e1 : highS t s = memS t s := if_neg hq
    have e2 : itemS t s = (((memS t s).1, (memS t s).1), (memS t s).2) := by unfold itemS; rw [e1, if_neg (by omega)]
    have hf : secS t (memS t s).2 = false := by simpa using hq
    rw [e2]
    clear e1 e2 hq
    go_enter Try.func163, Try.ntmps163
    go_wp2_with fail
    refine (member_any b t s v _ hz).mono ?_
    rintro e w1 ⟨rfl, h1, k1⟩
    go_wp2_with fail
    refine (atSec_any b t _ v _ h1).mono ?_
    rintro e w1 ⟨rfl, rfl⟩
    have b3 := bz.kept k1 (by simp; omega)
    have g0 := b3.frozen 0
    have g1 := b3.frozen 1
    have g2 := b3.cell 0
    have g3 := b3.cell 1
    obtain ⟨r0, r1, r2, r3⟩ := fin w1 (memS t s).1 (memS t s).1 _ h1 (kz.trans k1) b3
    go_wp2
    exact bodyPost_ret (v := .agg #[.int .i64 _, .int .i64 _]) (by simp [results, Try.results163, go_sem, r0, r1]) rfl ⟨rfl, r2, r3⟩

set_option maxHeartbeats 400000 in
/-- The upper bound of a pair of braces. -/
theorem most_true {t : ByteArray} {s : RS} (h : (takeS t 44 (digS t s).2).1 = true) : mostS t s = upS t (takeS t 44 (digS t s).2).2 := if_pos h
theorem most_false {t : ByteArray} {s : RS} (h : (takeS t 44 (digS t s).2).1 = false) : mostS t s = ((digS t s).1, (takeS t 44 (digS t s).2).2) := if_neg (by rw [h]; decide)

theorem braces_bad {t : ByteArray} {s : RS} (h : (takeS t 125 (mostS t s).2).1 = false ∨ ((mostS t s).1 ≠ -1 ∧ (mostS t s).1 < (digS t s).1)) : bracesS t s = ((0, 0), failS t) := if_pos h
theorem braces_good {t : ByteArray} {s : RS} (h : ¬ ((takeS t 125 (mostS t s).2).1 = false ∨ ((mostS t s).1 ≠ -1 ∧ (mostS t s).1 < (digS t s).1))) :
    bracesS t s = (((digS t s).1, (mostS t s).1), (takeS t 125 (mostS t s).2).2) := if_neg h

set_option maxHeartbeats 1000000 in
theorem braces_any (b : Nat) (t : ByteArray) (s : RS) (v : Value) (w : World) (h : RD w b t s v) :
    Calls Try.prog 160 #[.pointer (some ⟨b, 0, none⟩)] w fun e w' =>
      e = .returned (.tuple #[.int .i64 (bracesS t s).1.1, .int .i64 (bracesS t s).1.2]) ∧ RD w' b t (bracesS t s).2 v ∧ Kept [b] w w' := by
  have bd1 := dig_bd t s
  have bd2 := most_bd t s
  have front : ∀ (x : Bool), (takeS t 44 (digS t s).2).1 = x → True := fun _ _ => trivial
  clear front
  by_cases hcl : (takeS t 125 (mostS t s).2).1 = false
  · have e2 := braces_bad (Or.inl hcl)
    rw [e2]
    clear e2
    go_enter Try.func160, Try.ntmps160
    go_wp2_with fail
    refine (digit_any b t s v _ h).mono ?_
    rintro e w1 ⟨rfl, h1, k1⟩
    go_wp2_with fail
    refine (take_any b 44 t _ v _ h1 (by omega) (by omega)).mono ?_
    rintro e w2 ⟨rfl, h2, k2⟩
    have k12 := k1.trans k2
    clear h1 k1 k2
    by_cases hm : (takeS t 44 (digS t s).2).1 = true
    · have e1 := most_true hm
      go_wp2_with fail
      refine (upper_any b t _ v _ h2).mono ?_
      rw [← e1]
      rintro e w3 ⟨rfl, h3, k3⟩
      have k13 := k12.trans k3
      clear h2 k12 k3 e1 hm
      go_wp2_with fail
      refine (take_any b 125 t _ v _ h3 (by omega) (by omega)).mono ?_
      rintro e w4 ⟨rfl, h4, k4⟩
      go_wp2_with fail
      refine (fail_any b t _ v _ h4).mono ?_
      rintro e w5 ⟨rfl, h5, k5⟩
      go_wp2
      go_ret2
      exact ⟨rfl, h5, (k13.trans k4).trans k5⟩
    · have e1 := most_false (by simpa using hm)
      have hm' : (takeS t 44 (digS t s).2).1 = false := by simpa using hm
      have e3 : (mostS t s).1 = (digS t s).1 := by rw [e1]
      rw [e1] at hcl
      go_wp2_with fail
      refine (take_any b 125 t _ v _ h2 (by omega) (by omega)).mono ?_
      rintro e w4 ⟨rfl, h4, k4⟩
      go_wp2_with fail
      refine (fail_any b t _ v _ h4).mono ?_
      rintro e w5 ⟨rfl, h5, k5⟩
      go_wp2
      go_ret2
      exact ⟨rfl, h5, (k12.trans k4).trans k5⟩
  have hcl : (takeS t 125 (mostS t s).2).1 = true := by simpa using hcl
  by_cases hm : (takeS t 44 (digS t s).2).1 = true
  · have e1 : Hid (_ = _) := most_true hm
    by_cases hn : (mostS t s).1 = -1
    · rw [braces_good (by rw [hcl]; simp [hn]), hn]
      go_enter Try.func160, Try.ntmps160
      go_wp2_with fail
      refine (digit_any b t s v _ h).mono ?_
      rintro e w1 ⟨rfl, h1, k1⟩
      go_wp2_with fail
      refine (take_any b 44 t _ v _ h1 (by omega) (by omega)).mono ?_
      rintro e w2 ⟨rfl, h2, k2⟩
      go_wp2_with fail
      refine (upper_any b t _ v _ h2).mono ?_
      rw [← e1.out]
      rintro e w3 ⟨rfl, h3, k3⟩
      go_wp2_with fail
      refine (take_any b 125 t _ v _ h3 (by omega) (by omega)).mono ?_
      rintro e w4 ⟨rfl, h4, k4⟩
      go_wp2
      go_ret2
      exact ⟨rfl, h4, ((k1.trans k2).trans k3).trans k4⟩
    by_cases hl : (mostS t s).1 < (digS t s).1
    · have hb : ((mostS t s).1 != -1) = true := by simpa using hn
      rw [braces_bad (Or.inr ⟨hn, hl⟩)]
      clear hn
      go_enter Try.func160, Try.ntmps160
      go_wp2_with fail
      refine (digit_any b t s v _ h).mono ?_
      rintro e w1 ⟨rfl, h1, k1⟩
      go_wp2_with fail
      refine (take_any b 44 t _ v _ h1 (by omega) (by omega)).mono ?_
      rintro e w2 ⟨rfl, h2, k2⟩
      go_wp2_with fail
      refine (upper_any b t _ v _ h2).mono ?_
      rw [← e1.out]
      rintro e w3 ⟨rfl, h3, k3⟩
      go_wp2_with fail
      refine (take_any b 125 t _ v _ h3 (by omega) (by omega)).mono ?_
      rintro e w4 ⟨rfl, h4, k4⟩
      go_wp2_with fail
      refine (fail_any b t _ v _ h4).mono ?_
      rintro e w5 ⟨rfl, h5, k5⟩
      go_wp2
      go_ret2
      exact ⟨rfl, h5, (((k1.trans k2).trans k3).trans k4).trans k5⟩
    · have hb : ((mostS t s).1 != -1) = true := by simpa using hn
      rw [braces_good (by rw [hcl]; simp; omega)]
      clear hn
      go_enter Try.func160, Try.ntmps160
      go_wp2_with fail
      refine (digit_any b t s v _ h).mono ?_
      rintro e w1 ⟨rfl, h1, k1⟩
      go_wp2_with fail
      refine (take_any b 44 t _ v _ h1 (by omega) (by omega)).mono ?_
      rintro e w2 ⟨rfl, h2, k2⟩
      go_wp2_with fail
      refine (upper_any b t _ v _ h2).mono ?_
      rw [← e1.out]
      rintro e w3 ⟨rfl, h3, k3⟩
      go_wp2_with fail
      refine (take_any b 125 t _ v _ h3 (by omega) (by omega)).mono ?_
      rintro e w4 ⟨rfl, h4, k4⟩
      go_wp2
      go_ret2
      exact ⟨rfl, h4, ((k1.trans k2).trans k3).trans k4⟩
  · have hm' : (takeS t 44 (digS t s).2).1 = false := by simpa using hm
    have e1 := most_false hm'
    have hb : ((digS t s).1 != -1) = true := by simp; omega
    rw [braces_good (by rw [hcl, e1]; simp), e1]
    rw [e1] at hcl
    clear e1 hm
    go_enter Try.func160, Try.ntmps160
    go_wp2_with fail
    refine (digit_any b t s v _ h).mono ?_
    rintro e w1 ⟨rfl, h1, k1⟩
    go_wp2_with fail
    refine (take_any b 44 t _ v _ h1 (by omega) (by omega)).mono ?_
    rintro e w2 ⟨rfl, h2, k2⟩
    go_wp2_with fail
    refine (take_any b 125 t _ v _ h2 (by omega) (by omega)).mono ?_
    rintro e w4 ⟨rfl, h4, k4⟩
    go_wp2
    go_ret2
    exact ⟨rfl, h4, (k1.trans k2).trans k4⟩

set_option maxHeartbeats 1000000 in
theorem repeat_any (b : Nat) (t : ByteArray) (s : RS) (v : Value) (w : World) (h : RD w b t s v) :
    Calls Try.prog 148 #[.pointer (some ⟨b, 0, none⟩)] w fun e w' =>
      e = .returned (.tuple #[.int .i64 (repeatS t s).1.1, .int .i64 (repeatS t s).1.2]) ∧ RD w' b t (repeatS t s).2 v ∧ Kept [b] w w' := by
  by_cases ha : (nextS t s).1 = 42
  · have e : repeatS t s = ((0, -1), (nextS t s).2) := if_pos ha
    rw [e]
    clear e
    go_enter Try.func148, Try.ntmps148
    go_wp2_with fail
    refine (next_any b t s v _ h).mono ?_
    rintro e w1 ⟨rfl, h1, k1⟩
    go_wp2
    go_ret2
    exact ⟨rfl, h1, k1⟩
  by_cases hb : (nextS t s).1 = 43
  · have e : repeatS t s = ((1, -1), (nextS t s).2) := by unfold repeatS; rw [if_neg ha, if_pos hb]
    rw [e]
    clear e
    go_enter Try.func148, Try.ntmps148
    go_wp2_with fail
    refine (next_any b t s v _ h).mono ?_
    rintro e w1 ⟨rfl, h1, k1⟩
    go_wp2
    go_ret2
    exact ⟨rfl, h1, k1⟩
  by_cases hc : (nextS t s).1 = 63
  · have e : repeatS t s = ((0, 1), (nextS t s).2) := by unfold repeatS; rw [if_neg ha, if_neg hb, if_pos hc]
    rw [e]
    clear e
    go_enter Try.func148, Try.ntmps148
    go_wp2_with fail
    refine (next_any b t s v _ h).mono ?_
    rintro e w1 ⟨rfl, h1, k1⟩
    go_wp2
    go_ret2
    exact ⟨rfl, h1, k1⟩
  · have e : repeatS t s = bracesS t (nextS t s).2 := by unfold repeatS; rw [if_neg ha, if_neg hb, if_neg hc]
    have ha' : ((nextS t s).1 == 42) = false := by simpa using ha
    have hb' : ((nextS t s).1 == 43) = false := by simpa using hb
    have hc' : ((nextS t s).1 == 63) = false := by simpa using hc
    rw [e]
    clear e ha hb hc
    go_enter Try.func148, Try.ntmps148
    go_wp2_with fail
    refine (next_any b t s v _ h).mono ?_
    rintro e w1 ⟨rfl, h1, k1⟩
    go_wp2_with fail
    refine (braces_any b t _ v _ h1).mono ?_
    rintro e w2 ⟨rfl, h2, k2⟩
    go_wp2
    go_ret2
    exact ⟨rfl, h2, k1.trans k2⟩

end Go.Proofs.Ytgifhgnccmnbiaa
