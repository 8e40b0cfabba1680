/- The reader of patterns: the reader's questions, members, items, digits and braces. -/
import Derived.Test.YtgifhgnccmnbiaaG01
import Derived.Deep.RegionLaw
set_option linter.unusedVariables false
set_option linter.unusedSimpArgs false
namespace Go.Proofs.Ytgifhgnccmnbiaa
open Go.RowKit Go.IntWalk

set_option maxHeartbeats 400000 in
theorem atEnd_any (b : Nat) (t : ByteArray) (s : RS) (v : Value) (w : World) (h : RD w b t s v) :
    Calls Try.prog 124 #[.pointer (some ⟨b, 0, none⟩)] w fun e w' => e = .returned (.bool (endS t s)) ∧ w' = w := by
  go_enter Try.func124, Try.ntmps124
  go_wp2_with (first | (go_at_call 127; refine (peek0 b t s v _ h).mono ?_; rintro e w' ⟨rfl, rfl⟩))
  all_goals go_ret
  all_goals exact ⟨ret_bool (by simp [endS, *]), rfl⟩

set_option maxHeartbeats 400000 in
theorem atRep_any (b : Nat) (t : ByteArray) (s : RS) (v : Value) (w : World) (h : RD w b t s v) :
    Calls Try.prog 147 #[.pointer (some ⟨b, 0, none⟩)] w fun e w' => e = .returned (.bool (repS t s)) ∧ w' = w := by
  go_enter Try.func147, Try.ntmps147
  go_wp2_with (first | (go_at_call 127; refine (peek0 b t s v _ h).mono ?_; rintro e w' ⟨rfl, rfl⟩))
  all_goals go_ret
  all_goals exact ⟨ret_bool (by simp [repS, *]), rfl⟩

set_option maxHeartbeats 400000 in
theorem atItem_any (b : Nat) (t : ByteArray) (s : RS) (v : Value) (w : World) (h : RD w b t s v) :
    Calls Try.prog 162 #[.pointer (some ⟨b, 0, none⟩)] w fun e w' => e = .returned (.bool (itemQ t s)) ∧ w' = w := by
  go_enter Try.func162, Try.ntmps162
  go_wp2_with (first | (go_at_call 127; refine (peek0 b t s v _ h).mono ?_; rintro e w' ⟨rfl, rfl⟩))
  all_goals go_ret
  all_goals exact ⟨ret_bool (by simp [itemQ, *]), rfl⟩

set_option maxHeartbeats 400000 in
theorem atSec_any (b : Nat) (t : ByteArray) (s : RS) (v : Value) (w : World) (h : RD w b t s v) :
    Calls Try.prog 167 #[.pointer (some ⟨b, 0, none⟩)] w fun e w' => e = .returned (.bool (secS t s)) ∧ w' = w := by
  go_enter Try.func167, Try.ntmps167
  go_wp2_with fail
  refine (peek0 b t s v _ h).mono ?_
  rintro e w' ⟨rfl, rfl⟩
  go_wp2_with fail
  refine (peek1 b t s v _ h).mono ?_
  rintro e w' ⟨rfl, rfl⟩
  go_wp2
  all_goals go_ret
  all_goals exact ⟨ret_bool (by simp [secS, *]), rfl⟩

set_option maxHeartbeats 400000 in
theorem member_any (b : Nat) (t : ByteArray) (s : RS) (v : Value) (w : World) (h : RD w b t s v) :
    Calls Try.prog 166 #[.pointer (some ⟨b, 0, none⟩)] w fun e w' => e = .returned (.int .i64 (memS t s).1) ∧ RD w' b t (memS t s).2 v ∧ Kept [b] w w' := by
  by_cases hn : (nextS t s).1 = 92
  · have hb : ((nextS t s).1 == 92) = true := by rw [hn]; rfl
    have e : memS t s = nextS t (nextS t s).2 := if_pos hn
    rw [e]
    clear hn e
    go_enter Try.func166, Try.ntmps166
    go_wp2_with fail
    refine (next_any b t s v _ h).mono ?_
    rintro e w1 ⟨rfl, h1, k1⟩
    go_wp2_with fail
    refine (next_any b t _ v _ h1).mono ?_
    rintro e w2 ⟨rfl, h2, k2⟩
    go_wp2
    go_ret
    exact ⟨rfl, h2, k1.trans k2⟩
  · have hb : ((nextS t s).1 == 92) = false := by simpa using hn
    have e : memS t s = nextS t s := if_neg hn
    rw [e]
    clear hn e
    go_enter Try.func166, Try.ntmps166
    go_wp2_with fail
    refine (next_any b t s v _ h).mono ?_
    rintro e w1 ⟨rfl, h1, k1⟩
    go_wp2
    go_ret
    exact ⟨rfl, h1, k1⟩

set_option maxHeartbeats 400000 in
theorem digit_any (b : Nat) (t : ByteArray) (s : RS) (v : Value) (w : World) (h : RD w b t s v) :
    Calls Try.prog 164 #[.pointer (some ⟨b, 0, none⟩)] w fun e w' => e = .returned (.int .i64 (digS t s).1) ∧ RD w' b t (digS t s).2 v ∧ Kept [b] w w' := by
  have hbd := next_bd t s
  by_cases hn : (nextS t s).1 < 48
  · have e : digS t s = (0, failS t) := if_pos (Or.inl hn)
    rw [e]
    clear e
    go_enter Try.func164, Try.ntmps164
    go_wp2_with fail
    refine (next_any b t s v _ h).mono ?_
    rintro e w1 ⟨rfl, h1, k1⟩
    go_wp2_with fail
    refine (fail_any b t _ v _ h1).mono ?_
    rintro e w2 ⟨rfl, h2, k2⟩
    go_wp2
    go_ret
    exact ⟨rfl, h2, k1.trans k2⟩
  by_cases hm : 57 < (nextS t s).1
  · have e : digS t s = (0, failS t) := if_pos (Or.inr hm)
    rw [e]
    clear e
    go_enter Try.func164, Try.ntmps164
    go_wp2_with fail
    refine (next_any b t s v _ h).mono ?_
    rintro e w1 ⟨rfl, h1, k1⟩
    go_wp2_with fail
    refine (fail_any b t _ v _ h1).mono ?_
    rintro e w2 ⟨rfl, h2, k2⟩
    go_wp2
    go_ret
    exact ⟨rfl, h2, k1.trans k2⟩
  · have e : digS t s = ((nextS t s).1 - 48, (nextS t s).2) := if_neg (by omega)
    rw [e]
    clear e
    go_enter Try.func164, Try.ntmps164
    go_wp2_with fail
    refine (next_any b t s v _ h).mono ?_
    rintro e w1 ⟨rfl, h1, k1⟩
    go_wp2
    go_ret
    exact ⟨rfl, h1, k1⟩

set_option maxHeartbeats 400000 in
theorem upper_any (b : Nat) (t : ByteArray) (s : RS) (v : Value) (w : World) (h : RD w b t s v) :
    Calls Try.prog 165 #[.pointer (some ⟨b, 0, none⟩)] w fun e w' => e = .returned (.int .i64 (upS t s).1) ∧ RD w' b t (upS t s).2 v ∧ Kept [b] w w' := by
  by_cases hn : pk t s.1 = 125
  · have hb : (pk t s.1 == 125) = true := by rw [hn]; rfl
    have e : upS t s = (-1, s) := if_pos hn
    rw [e]
    clear hn e
    go_enter Try.func165, Try.ntmps165
    go_wp2_with fail
    refine (peek0 b t s v _ h).mono ?_
    rintro e w1 ⟨rfl, rfl⟩
    go_wp2
    go_ret
    exact ⟨rfl, h, Kept.refl _ _⟩
  · have hb : (pk t s.1 == 125) = false := by simpa using hn
    have e : upS t s = digS t s := if_neg hn
    rw [e]
    clear hn e
    go_enter Try.func165, Try.ntmps165
    go_wp2_with fail
    refine (peek0 b t s v _ h).mono ?_
    rintro e w1 ⟨rfl, rfl⟩
    go_wp2_with fail
    refine (digit_any b t s v _ h).mono ?_
    rintro e w1 ⟨rfl, h1, k1⟩
    go_wp2
    go_ret
    exact ⟨rfl, h1, k1⟩

end Go.Proofs.Ytgifhgnccmnbiaa

set_option linter.unusedVariables false
set_option linter.unusedSimpArgs false
namespace Go.Proofs.Ytgifhgnccmnbiaa
open Go.RowKit Go.IntWalk

set_option maxHeartbeats 1000000 in
theorem item_any (b : Nat) (t : ByteArray) (s : RS) (v : Value) (w : World) (h : RD w b t s v) :
    Calls Try.prog 163 #[.pointer (some ⟨b, 0, none⟩)] w fun e w' =>
      e = .returned (.agg #[.int .i64 (itemS t s).1.1, .int .i64 (itemS t s).1.2]) ∧ RD w' b t (itemS t s).2 v ∧ Kept [b] w w' := by
  have hbw : b < w.heap.size := h.blk.lt
  have hz : RD (w.alloc (.cells #[.int .i64 0, .int .i64 0] 208)) b t s v := h.kept (Kept.alloc (Kept.refl [] w) _) (by simp)
  have kz : Kept [b] w (w.alloc (.cells #[.int .i64 0, .int .i64 0] 208)) := Kept.alloc (Kept.refl _ w) _
  have bz : Blk (w.alloc (.cells #[.int .i64 0, .int .i64 0] 208)) w.heap.size #[.int .i64 0, .int .i64 0] 208 := Blk.new _ _ _
  clear h
  have fin : ∀ (x : World) (lo hi : Int) (s' : RS), RD x b t s' v → Kept [b] w x → Blk x w.heap.size #[.int .i64 0, .int .i64 0] 208 →
      ((x.setCell ⟨w.heap.size, 0, none⟩ (.int .i64 lo)).setCell ⟨w.heap.size, 1, none⟩ (.int .i64 hi)).cell? ⟨w.heap.size, 0, none⟩ = some (.int .i64 lo) ∧
      ((x.setCell ⟨w.heap.size, 0, none⟩ (.int .i64 lo)).setCell ⟨w.heap.size, 1, none⟩ (.int .i64 hi)).cell? ⟨w.heap.size, 1, none⟩ = some (.int .i64 hi) ∧
      RD ((x.setCell ⟨w.heap.size, 0, none⟩ (.int .i64 lo)).setCell ⟨w.heap.size, 1, none⟩ (.int .i64 hi)) b t s' v ∧
      Kept [b] w ((x.setCell ⟨w.heap.size, 0, none⟩ (.int .i64 lo)).setCell ⟨w.heap.size, 1, none⟩ (.int .i64 hi)) := by
    intro x lo hi s' hr hk hb
    have hb2 := (hb.set 0 (.int .i64 lo)).set 1 (.int .i64 hi)
    refine ⟨by rw [hb2.cell]; rfl, by rw [hb2.cell]; rfl, ⟨Blk.other (Blk.other hr.blk _ _ (by omega)) _ _ (by omega), hr.fits, hr.small⟩, (hk.setCell (Or.inr (Nat.le_refl _)) _).setCell (Or.inr (Nat.le_refl _)) _⟩
  by_cases hq : secS t (memS t s).2 = true
  · have e1 : highS t s = memS t ((memS t s).2.1 + 1, (memS t s).2.2) := if_pos hq
    have hl : (memS t s).2.1 < t.size := fits_sec hq
    by_cases hc : (highS t s).1 < (memS t s).1
    · have e2 : itemS t s = (((memS t s).1, (highS t s).1), failS t) := by unfold itemS; rw [if_pos hc]
      rw [e2]
      rw [e1] at hc ⊢
      clear e1 e2
      go_enter Try.func163, Try.ntmps163
      go_wp2_with fail
      refine (member_any b t s v _ hz).mono ?_
      rintro e w1 ⟨rfl, h1, k1⟩
      go_wp2_with fail
      refine (atSec_any b t _ v _ h1).mono ?_
      rintro e w1 ⟨rfl, rfl⟩
      have q1 := h1.c1
      have q2 := h1.f 1
      have hsm := h1.small
      go_wp2_with fail
      refine (member_any b t _ v _ (h1.upto _ hl)).mono ?_
      rintro e w2 ⟨rfl, h2, k2⟩
      go_wp2_with fail
      refine (fail_any b t _ v _ h2).mono ?_
      rintro e w3 ⟨rfl, h3, k3⟩
      have kk := (k1.trans (((Kept.refl _ _).setCell (by simp) _).trans k2)).trans k3
      have b3 := bz.kept kk (by simp; omega)
      have g0 := b3.frozen 0
      have g1 := b3.frozen 1
      have g2 := b3.cell 0
      have g3 := b3.cell 1
      obtain ⟨r0, r1, r2, r3⟩ := fin w3 (memS t s).1 _ _ h3 (kz.trans kk) b3
      go_wp2
      exact bodyPost_ret (v := .agg #[.int .i64 _, .int .i64 _]) (by simp [results, Try.results163, go_sem, r0, r1]) rfl ⟨rfl, r2, r3⟩
    · have e2 : itemS t s = (((memS t s).1, (highS t s).1), (highS t s).2) := by unfold itemS; rw [if_neg hc]
      rw [e2]
      rw [e1] at hc ⊢
      clear e1 e2
      go_enter Try.func163, Try.ntmps163
      go_wp2_with fail
      refine (member_any b t s v _ hz).mono ?_
      rintro e w1 ⟨rfl, h1, k1⟩
      go_wp2_with fail
      refine (atSec_any b t _ v _ h1).mono ?_
      rintro e w1 ⟨rfl, rfl⟩
      have q1 := h1.c1
      have q2 := h1.f 1
      have hsm := h1.small
      go_wp2_with fail
      refine (member_any b t _ v _ (h1.upto _ hl)).mono ?_
      rintro e w2 ⟨rfl, h2, k2⟩
      have kk := k1.trans (((Kept.refl _ _).setCell (by simp) _).trans k2)
      have b3 := bz.kept kk (by simp; omega)
      have g0 := b3.frozen 0
      have g1 := b3.frozen 1
      have g2 := b3.cell 0
      have g3 := b3.cell 1
      obtain ⟨r0, r1, r2, r3⟩ := fin w2 (memS t s).1 _ _ h2 (kz.trans kk) b3
      go_wp2
      exact bodyPost_ret (v := .agg #[.int .i64 _, .int .i64 _]) (by simp [results, Try.results163, go_sem, r0, r1]) rfl ⟨rfl, r2, r3⟩
  · have e1 : highS t s = memS t s := if_neg hq
    have e2 : itemS t s = (((memS t s).1, (memS t s).1), (memS t s).2) := by unfold itemS; rw [e1, if_neg (by omega)]
    have hf : secS t (memS t s).2 = false := by simpa using hq
    rw [e2]
    clear e1 e2 hq
    go_enter Try.func163, Try.ntmps163
    go_wp2_with fail
    refine (member_any b t s v _ hz).mono ?_
    rintro e w1 ⟨rfl, h1, k1⟩
    go_wp2_with fail
    refine (atSec_any b t _ v _ h1).mono ?_
    rintro e w1 ⟨rfl, rfl⟩
    have b3 := bz.kept k1 (by simp; omega)
    have g0 := b3.frozen 0
    have g1 := b3.frozen 1
    have g2 := b3.cell 0
    have g3 := b3.cell 1
    obtain ⟨r0, r1, r2, r3⟩ := fin w1 (memS t s).1 (memS t s).1 _ h1 (kz.trans k1) b3
    go_wp2
    exact bodyPost_ret (v := .agg #[.int .i64 _, .int .i64 _]) (by simp [results, Try.results163, go_sem, r0, r1]) rfl ⟨rfl, r2, r3⟩

set_option maxHeartbeats 400000 in
/-- The upper bound of a pair of braces. -/
theorem most_true {t : ByteArray} {s : RS} (h : (takeS t 44 (digS t s).2).1 = true) : mostS t s = upS t (takeS t 44 (digS t s).2).2 := if_pos h
theorem most_false {t : ByteArray} {s : RS} (h : (takeS t 44 (digS t s).2).1 = false) : mostS t s = ((digS t s).1, (takeS t 44 (digS t s).2).2) := if_neg (by rw [h]; decide)

theorem braces_bad {t : ByteArray} {s : RS} (h : (takeS t 125 (mostS t s).2).1 = false ∨ ((mostS t s).1 ≠ -1 ∧ (mostS t s).1 < (digS t s).1)) : bracesS t s = ((0, 0), failS t) := if_pos h
theorem braces_good {t : ByteArray} {s : RS} (h : ¬ ((takeS t 125 (mostS t s).2).1 = false ∨ ((mostS t s).1 ≠ -1 ∧ (mostS t s).1 < (digS t s).1))) :
    bracesS t s = (((digS t s).1, (mostS t s).1), (takeS t 125 (mostS t s).2).2) := if_neg h

set_option maxHeartbeats 1000000 in
theorem braces_any (b : Nat) (t : ByteArray) (s : RS) (v : Value) (w : World) (h : RD w b t s v) :
    Calls Try.prog 160 #[.pointer (some ⟨b, 0, none⟩)] w fun e w' =>
      e = .returned (.tuple #[.int .i64 (bracesS t s).1.1, .int .i64 (bracesS t s).1.2]) ∧ RD w' b t (bracesS t s).2 v ∧ Kept [b] w w' := by
  have bd1 := dig_bd t s
  have bd2 := most_bd t s
  have front : ∀ (x : Bool), (takeS t 44 (digS t s).2).1 = x → True := fun _ _ => trivial
  clear front
  by_cases hcl : (takeS t 125 (mostS t s).2).1 = false
  · have e2 := braces_bad (Or.inl hcl)
    rw [e2]
    clear e2
    go_enter Try.func160, Try.ntmps160
    go_wp2_with fail
    refine (digit_any b t s v _ h).mono ?_
    rintro e w1 ⟨rfl, h1, k1⟩
    go_wp2_with fail
    refine (take_any b 44 t _ v _ h1 (by omega) (by omega)).mono ?_
    rintro e w2 ⟨rfl, h2, k2⟩
    have k12 := k1.trans k2
    clear h1 k1 k2
    by_cases hm : (takeS t 44 (digS t s).2).1 = true
    · have e1 := most_true hm
      go_wp2_with fail
      refine (upper_any b t _ v _ h2).mono ?_
      rw [← e1]
      rintro e w3 ⟨rfl, h3, k3⟩
      have k13 := k12.trans k3
      clear h2 k12 k3 e1 hm
      go_wp2_with fail
      refine (take_any b 125 t _ v _ h3 (by omega) (by omega)).mono ?_
      rintro e w4 ⟨rfl, h4, k4⟩
      go_wp2_with fail
      refine (fail_any b t _ v _ h4).mono ?_
      rintro e w5 ⟨rfl, h5, k5⟩
      go_wp2
      go_ret2
      exact ⟨rfl, h5, (k13.trans k4).trans k5⟩
    · have e1 := most_false (by simpa using hm)
      have hm' : (takeS t 44 (digS t s).2).1 = false := by simpa using hm
      have e3 : (mostS t s).1 = (digS t s).1 := by rw [e1]
      rw [e1] at hcl
      go_wp2_with fail
      refine (take_any b 125 t _ v _ h2 (by omega) (by omega)).mono ?_
      rintro e w4 ⟨rfl, h4, k4⟩
      go_wp2_with fail
      refine (fail_any b t _ v _ h4).mono ?_
      rintro e w5 ⟨rfl, h5, k5⟩
      go_wp2
      go_ret2
      exact ⟨rfl, h5, (k12.trans k4).trans k5⟩
  have hcl : (takeS t 125 (mostS t s).2).1 = true := by simpa using hcl
  by_cases hm : (takeS t 44 (digS t s).2).1 = true
  · have e1 : Hid (_ = _) := most_true hm
    by_cases hn : (mostS t s).1 = -1
    · rw [braces_good (by rw [hcl]; simp [hn]), hn]
      go_enter Try.func160, Try.ntmps160
      go_wp2_with fail
      refine (digit_any b t s v _ h).mono ?_
      rintro e w1 ⟨rfl, h1, k1⟩
      go_wp2_with fail
      refine (take_any b 44 t _ v _ h1 (by omega) (by omega)).mono ?_
      rintro e w2 ⟨rfl, h2, k2⟩
      go_wp2_with fail
      refine (upper_any b t _ v _ h2).mono ?_
      rw [← e1.out]
      rintro e w3 ⟨rfl, h3, k3⟩
      go_wp2_with fail
      refine (take_any b 125 t _ v _ h3 (by omega) (by omega)).mono ?_
      rintro e w4 ⟨rfl, h4, k4⟩
      go_wp2
      go_ret2
      exact ⟨rfl, h4, ((k1.trans k2).trans k3).trans k4⟩
    by_cases hl : (mostS t s).1 < (digS t s).1
    · have hb : ((mostS t s).1 != -1) = true := by simpa using hn
      rw [braces_bad (Or.inr ⟨hn, hl⟩)]
      clear hn
      go_enter Try.func160, Try.ntmps160
      go_wp2_with fail
      refine (digit_any b t s v _ h).mono ?_
      rintro e w1 ⟨rfl, h1, k1⟩
      go_wp2_with fail
      refine (take_any b 44 t _ v _ h1 (by omega) (by omega)).mono ?_
      rintro e w2 ⟨rfl, h2, k2⟩
      go_wp2_with fail
      refine (upper_any b t _ v _ h2).mono ?_
      rw [← e1.out]
      rintro e w3 ⟨rfl, h3, k3⟩
      go_wp2_with fail
      refine (take_any b 125 t _ v _ h3 (by omega) (by omega)).mono ?_
      rintro e w4 ⟨rfl, h4, k4⟩
      go_wp2_with fail
      refine (fail_any b t _ v _ h4).mono ?_
      rintro e w5 ⟨rfl, h5, k5⟩
      go_wp2
      go_ret2
      exact ⟨rfl, h5, (((k1.trans k2).trans k3).trans k4).trans k5⟩
    · have hb : ((mostS t s).1 != -1) = true := by simpa using hn
      rw [braces_good (by rw [hcl]; simp; omega)]
      clear hn
      go_enter Try.func160, Try.ntmps160
      go_wp2_with fail
      refine (digit_any b t s v _ h).mono ?_
      rintro e w1 ⟨rfl, h1, k1⟩
      go_wp2_with fail
      refine (take_any b 44 t _ v _ h1 (by omega) (by omega)).mono ?_
      rintro e w2 ⟨rfl, h2, k2⟩
      go_wp2_with fail
      refine (upper_any b t _ v _ h2).mono ?_
      rw [← e1.out]
      rintro e w3 ⟨rfl, h3, k3⟩
      go_wp2_with fail
      refine (take_any b 125 t _ v _ h3 (by omega) (by omega)).mono ?_
      rintro e w4 ⟨rfl, h4, k4⟩
      go_wp2
      go_ret2
      exact ⟨rfl, h4, ((k1.trans k2).trans k3).trans k4⟩
  · have hm' : (takeS t 44 (digS t s).2).1 = false := by simpa using hm
    have e1 := most_false hm'
    have hb : ((digS t s).1 != -1) = true := by simp; omega
    rw [braces_good (by rw [hcl, e1]; simp), e1]
    rw [e1] at hcl
    clear e1 hm
    go_enter Try.func160, Try.ntmps160
    go_wp2_with fail
    refine (digit_any b t s v _ h).mono ?_
    rintro e w1 ⟨rfl, h1, k1⟩
    go_wp2_with fail
    refine (take_any b 44 t _ v _ h1 (by omega) (by omega)).mono ?_
    rintro e w2 ⟨rfl, h2, k2⟩
    go_wp2_with fail
    refine (take_any b 125 t _ v _ h2 (by omega) (by omega)).mono ?_
    rintro e w4 ⟨rfl, h4, k4⟩
    go_wp2
    go_ret2
    exact ⟨rfl, h4, (k1.trans k2).trans k4⟩

set_option maxHeartbeats 1000000 in
theorem repeat_any (b : Nat) (t : ByteArray) (s : RS) (v : Value) (w : World) (h : RD w b t s v) :
    Calls Try.prog 148 #[.pointer (some ⟨b, 0, none⟩)] w fun e w' =>
      e = .returned (.tuple #[.int .i64 (repeatS t s).1.1, .int .i64 (repeatS t s).1.2]) ∧ RD w' b t (repeatS t s).2 v ∧ Kept [b] w w' := by
  by_cases ha : (nextS t s).1 = 42
  · have e : repeatS t s = ((0, -1), (nextS t s).2) := if_pos ha
    rw [e]
    clear e
    go_enter Try.func148, Try.ntmps148
    go_wp2_with fail
    refine (next_any b t s v _ h).mono ?_
    rintro e w1 ⟨rfl, h1, k1⟩
    go_wp2
    go_ret2
    exact ⟨rfl, h1, k1⟩
  by_cases hb : (nextS t s).1 = 43
  · have e : repeatS t s = ((1, -1), (nextS t s).2) := by unfold repeatS; rw [if_neg ha, if_pos hb]
    rw [e]
    clear e
    go_enter Try.func148, Try.ntmps148
    go_wp2_with fail
    refine (next_any b t s v _ h).mono ?_
    rintro e w1 ⟨rfl, h1, k1⟩
    go_wp2
    go_ret2
    exact ⟨rfl, h1, k1⟩
  by_cases hc : (nextS t s).1 = 63
  · have e : repeatS t s = ((0, 1), (nextS t s).2) := by unfold repeatS; rw [if_neg ha, if_neg hb, if_pos hc]
    rw [e]
    clear e
    go_enter Try.func148, Try.ntmps148
    go_wp2_with fail
    refine (next_any b t s v _ h).mono ?_
    rintro e w1 ⟨rfl, h1, k1⟩
    go_wp2
    go_ret2
    exact ⟨rfl, h1, k1⟩
  · have e : repeatS t s = bracesS t (nextS t s).2 := by unfold repeatS; rw [if_neg ha, if_neg hb, if_neg hc]
    have ha' : ((nextS t s).1 == 42) = false := by simpa using ha
    have hb' : ((nextS t s).1 == 43) = false := by simpa using hb
    have hc' : ((nextS t s).1 == 63) = false := by simpa using hc
    rw [e]
    clear e ha hb hc
    go_enter Try.func148, Try.ntmps148
    go_wp2_with fail
    refine (next_any b t s v _ h).mono ?_
    rintro e w1 ⟨rfl, h1, k1⟩
    go_wp2_with fail
    refine (braces_any b t _ v _ h1).mono ?_
    rintro e w2 ⟨rfl, h2, k2⟩
    go_wp2
    go_ret2
    exact ⟨rfl, h2, k1.trans k2⟩

end Go.Proofs.Ytgifhgnccmnbiaa

set_option linter.unusedVariables false
set_option linter.unusedSimpArgs false
namespace Go.Proofs.Ytgifhgnccmnbiaa
open Go.RowKit Go.IntWalk

/-- append TO A ROW OF THE CALL's OWN (nil, with room or without), as one step of a region that draws. -/
theorem step_append_owned {P : Program} {ops : Array Oper} {o : Oper} {a : Act} {w : World} {K : Act → World → Prop} {Q : Exit → Act → World → Prop} {E : Prop}
    (hg : o.guard = none) (s x : Operand) (t : TypeId) (hop : o.op = Op.call { callee := Callee.builtin Builtin.append, args := #[s, x], argTypes := #[t, t] })
    (e : TypeId) (i : TypeInfo) (z : Value) (size bytes : Nat) (h1 : P.underlying t = some (.slice e)) (h2 : P.info? e = some i) (h3 : i.zero = some z) (h4 : i.size = size) (h5 : i.bytes = bytes) (h6 : z.cells.size = size) (h7 : 0 < size)
    (base : Nat) (v : Value) (n : Nat) (xs : List Value) (hs : a.eval s = v) (hown : w.ownsRow base e size v n xs)
    (ad : Addr) (m c : Nat) (news : List Value) (hx : a.eval x = .slice (some ad) m c) (hn : news.length = m * size) (hc : ∀ j u, news[j]? = some u → w.cell? (ad.add j) = some u) (h1c : ∀ u ∈ news, u.oneCell' = true)
    (b1 : n + m ≤ maxLen) (b2 : (n + m) * bytes ≤ 140737488355328) (hbase : base ≤ w.heap.size)
    (hK : ∀ v' w', w'.ownsRow base e size v' (n + m) (xs ++ news) → w.grownBy w' v.ownBlock → K (a.put o.dst v') w') :
    if Region.wanted o (yielded ops a.tmps) = true then Oper.wp P o a w K Q else E := by
  have hw : Region.wanted o (yielded ops a.tmps) = true := by simp [Region.wanted, hg]
  rw [if_pos hw]
  obtain ⟨v', w', hrun, r1, r2, _⟩ := run_append_own (P := P) w base t o.type e i z size bytes h1 h2 h3 h4 h5 h6 h7 v n xs hown ad m c news hn hc h1c b1 b2 hbase
  unfold Oper.wp
  simp [execOp, hop, resolve, invoke, builtin, hs, hx, hrun, Result.andThen]
  exact hK v' w' r1 r2

/-- A slice as it lies in a cell: address, length, room. -/
abbrev IV := Option Addr × Nat × Nat
def ivV (x : IV) : Value := .slice x.1 x.2.1 x.2.2
def AN.cells (n : AN) (x : IV) : List Value :=
  [.int .i64 n.kind, .slice x.1 x.2.1 x.2.2, .bool n.neg, .int .i64 n.left, .int .i64 n.right, .int .i64 n.least, .int .i64 n.most, .int .i64 n.size]
def nodesCells : List AN → List IV → List Value
  | n :: ns, x :: xs => n.cells x ++ nodesCells ns xs
  | _, _ => []
def itemCells : List (Int × Int) → List Value
  | [] => []
  | x :: r => .int .i64 x.1 :: .int .i64 x.2 :: itemCells r

theorem nodesCells_length : ∀ (ns : List AN) (xs : List IV), xs.length = ns.length → (nodesCells ns xs).length = ns.length * 8
  | [], _, _ => by simp [nodesCells]
  | n :: ns, x :: xs, h => by simp [nodesCells, AN.cells, nodesCells_length ns xs (by simpa using h)]; omega
  | n :: ns, [], h => by simp at h
theorem nodesCells_snoc : ∀ (ns : List AN) (xs : List IV) (n : AN) (x : IV), xs.length = ns.length → nodesCells (ns ++ [n]) (xs ++ [x]) = nodesCells ns xs ++ n.cells x
  | [], [], n, x, _ => by simp [nodesCells]
  | [], _ :: _, n, x, h => by simp at h
  | m :: ns, y :: xs, n, x, h => by simp [nodesCells, nodesCells_snoc ns xs n x (by simpa using h)]
  | m :: ns, [], n, x, h => by simp at h
theorem nodesCells_get : ∀ (ns : List AN) (xs : List IV) (i j : Nat) (n : AN) (x : IV), ns[i]? = some n → xs[i]? = some x → j < 8 → (nodesCells ns xs)[i * 8 + j]? = (n.cells x)[j]?
  | [], _, i, j, n, x, h, _, _ => by simp at h
  | m :: ns, [], i, j, n, x, _, h, _ => by simp at h
  | m :: ns, y :: xs, 0, j, n, x, h, h', hj => by
    simp at h h'; subst h h'
    rw [nodesCells, Nat.zero_mul, Nat.zero_add, List.getElem?_append_left (by simp [AN.cells]; omega)]
  | m :: ns, y :: xs, i + 1, j, n, x, h, h', hj => by
    simp at h h'
    rw [nodesCells, List.getElem?_append_right (by simp [AN.cells]; omega)]
    have e : (i + 1) * 8 + j - (m.cells y).length = i * 8 + j := by simp [AN.cells]; omega
    rw [e]
    exact nodesCells_get ns xs i j n x h h' hj
theorem itemCells_length : ∀ l : List (Int × Int), (itemCells l).length = l.length * 2
  | [] => rfl
  | x :: r => by simp [itemCells, itemCells_length r]; omega
theorem itemCells_snoc : ∀ (l : List (Int × Int)) (x : Int × Int), itemCells (l ++ [x]) = itemCells l ++ [.int .i64 x.1, .int .i64 x.2]
  | [], x => rfl
  | y :: r, x => by simp [itemCells, itemCells_snoc r x]

/-- A node's items, in a row of their own. -/
def ItemsOk (w : World) (base : Nat) (x : IV) (its : List (Int × Int)) : Prop := w.ownsRow base 208 2 (ivV x) its.length (itemCells its)

/-- The reader with its nodes. -/
structure NV (w : World) (b : Nat) (t : ByteArray) (s : RS) (ns : List AN) (v : Value) (xs : List IV) : Prop where
  rd : RD w b t s v
  row : w.ownsRow (b + 1) 119 8 v ns.length (nodesCells ns xs)
  len : xs.length = ns.length
  items : ∀ (i : Nat) (n : AN) (x : IV), ns[i]? = some n → xs[i]? = some x → ItemsOk w (b + 1) x n.its
  sized : Sized ns
def NS (w : World) (b : Nat) (t : ByteArray) (st : PS) : Prop := ∃ v xs, NV w b t st.1 st.2 v xs

section
variable {w w' : World} {b : Nat} {t : ByteArray} {s s' : RS} {ns : List AN} {v : Value} {xs : List IV}
theorem own_ge {w : World} {base : Nat} {e : TypeId} {size : Nat} {v : Value} {n : Nat} {xs : List Value} (h : w.ownsRow base e size v n xs) {g : Nat} (hg : v.ownBlock = some g) : base ≤ g := (h.lt g hg).1

/-- Rows of two element types lie in two blocks. -/
theorem own_ne {w : World} {b1 b2 e1 e2 z1 z2 : Nat} {v1 v2 : Value} {n1 n2 : Nat} {x1 x2 : List Value} (h1 : w.ownsRow b1 e1 z1 v1 n1 x1) (h2 : w.ownsRow b2 e2 z2 v2 n2 x2) (he : e1 ≠ e2) :
    v1.ownBlock = none ∨ v1.ownBlock ≠ v2.ownBlock := by
  rcases h1.2 with ⟨rfl, _⟩ | ⟨g1, c1, u1, rfl, _, hg1, _⟩
  · exact Or.inl rfl
  · refine Or.inr (fun hc => ?_)
    rcases h2.2 with ⟨rfl, _⟩ | ⟨g2, c2, u2, rfl, _, hg2, _⟩
    · simp [Value.ownBlock] at hc
    · simp only [Value.ownBlock, Option.some.injEq] at hc
      subst hc
      rw [hg1] at hg2
      simp only [Option.some.injEq, Obj.cells.injEq] at hg2
      exact he hg2.2.1

/-- What a scanning step leaves: the reader's block alone has turned. -/
theorem NV.scan (h : NV w b t s ns v xs) (r : RD w' b t s' v) (k : Kept [b] w w') : NV w' b t s' ns v xs := by
  have gr : w.grownBy w' (some b) := ⟨k.os, k.tape, k.output, k.size, fun i hi hn => k.block i hi (by simpa using hn)⟩
  refine ⟨r, h.row.kept gr ?_, h.len, fun i n x hn hx => ?_, h.sized⟩
  · cases hv : v.ownBlock with
    | none => exact Or.inl rfl
    | some g => refine Or.inr ?_; have := own_ge h.row hv; simp; omega
  · have h1 := h.items i n x hn hx
    refine World.ownsRow.kept h1 gr ?_
    cases hv : (ivV x).ownBlock with
    | none => exact Or.inl rfl
    | some g => refine Or.inr ?_; have := own_ge h1 hv; simp; omega
end

set_option maxHeartbeats 400000 in
theorem size_any (b i : Nat) (t : ByteArray) (s : RS) (ns : List AN) (v : Value) (xs : List IV) (w : World) (h : NV w b t s ns v xs) (hi : i < ns.length) (hl : ns.length ≤ 1000) :
    Calls Try.prog 62 #[.pointer (some ⟨b, 0, none⟩), .int .i64 (i : Int)] w fun e w' => e = .returned (.int .i64 (sizeAt ns i)) ∧ w' = w := by
  have h2 := h.rd.c2
  obtain ⟨x, hx⟩ : ∃ x, xs[i]? = some x := by have := h.len; exact ⟨xs[i], List.getElem?_eq_getElem (by omega)⟩
  obtain ⟨n, hn⟩ : ∃ n, ns[i]? = some n := ⟨ns[i], List.getElem?_eq_getElem hi⟩
  have hget := nodesCells_get ns xs i 7 n x hn hx (by omega)
  have hv : ∃ g cap, v = .slice (some ⟨g, 0, none⟩) ns.length cap := by
    rcases h.row.2 with ⟨_, h⟩ | ⟨g, cap, _, h, _⟩
    · omega
    · exact ⟨g, cap, h⟩
  obtain ⟨g, cap, rfl⟩ := hv
  have hc : w.cell? ⟨g, i * 8 + 7, none⟩ = some (.int .i64 n.size) := by
    have := h.row.cells (g := g) rfl (i * 8 + 7) (.int .i64 n.size) (by rw [hget]; rfl)
    rwa [show (⟨g, 0, none⟩ : Addr).add (i * 8 + 7) = ⟨g, i * 8 + 7, none⟩ by simp [Addr.add]] at this
  have e : sizeAt ns i = n.size := by simp [sizeAt, hn]
  rw [e]
  clear hget e hn hx h
  go_enter Try.func62, Try.ntmps62
  go_wp2
  go_ret
  exact ⟨rfl, rfl⟩

end Go.Proofs.Ytgifhgnccmnbiaa

set_option linter.unusedVariables false
set_option linter.unusedSimpArgs false
namespace Go.Proofs.Ytgifhgnccmnbiaa
open Go.RowKit Go.IntWalk

theorem infoNode : (Try.prog.info? 119).map (fun i => (i.zero, i.size, i.bytes)) =
    some (some (.agg #[.int .i64 0, .slice none 0 0, .bool false, .int .i64 0, .int .i64 0, .int .i64 0, .int .i64 0, .int .i64 0]), 8, 80) := by kernel_rfl

/-- The node as it comes in, by value. -/
def AN.val (n : AN) (x : IV) : Value :=
  .agg #[.int .i64 n.kind, .slice x.1 x.2.1 x.2.2, .bool n.neg, .int .i64 n.left, .int .i64 n.right, .int .i64 n.least, .int .i64 n.most, .int .i64 n.size]

theorem cells_new (w0 : World) (cs : Array Value) (e : TypeId) (k : Nat) (hk : k = w0.heap.size) :
    ∀ j u, cs.toList[j]? = some u → (w0.alloc (.cells cs e)).cell? ((⟨k, 0, none⟩ : Addr).add j) = some u := by
  intro j u hu
  subst hk
  rw [show (⟨w0.heap.size, 0, none⟩ : Addr).add j = ⟨w0.heap.size, j, none⟩ by unfold Addr.add; split <;> simp_all, (Blk.new w0 cs e).cell]
  simpa using hu

theorem own_form {w : World} {base : Nat} {e : TypeId} {size : Nat} {v : Value} {n : Nat} {xs : List Value} (h : w.ownsRow base e size v n xs) (hn : 0 < n) :
    ∃ g cap, v = .slice (some ⟨g, 0, none⟩) n cap := by
  rcases h.2 with ⟨_, h⟩ | ⟨g, cap, _, h, _⟩
  · omega
  · exact ⟨g, cap, h⟩

theorem sized_snoc {ns : List AN} {n : AN} (h : Sized ns) (hn : 0 ≤ n.size) : Sized (ns ++ [capN n]) := sized_add (n := n) (st := ((0, false), ns)) h hn

/-- What is left behind the append and the store. -/
theorem add_fin {b : Nat} {t : ByteArray} {s : RS} {ns : List AN} {v : Value} {xs : List IV} {n : AN} {x : IV} {w w1 : World} (h : NV w b t s ns v xs) (hx : ItemsOk w (b + 1) x n.its) (hn : 0 ≤ n.size)
    (o1 o2 : Obj) (g cap : Nat) (news : List Value) (hnews : news = (capN n).cells x)
    (hown : w1.ownsRow (b + 1) 119 8 (.slice (some ⟨g, 0, none⟩) (ns.length + 1) cap) (ns.length + 1) (nodesCells ns xs ++ news))
    (hgrow : ((w.alloc o1).alloc o2).drew.grownBy w1 v.ownBlock) :
    RD w1 b t s v ∧ NS (w1.setCell ⟨b, 2, none⟩ (.slice (some ⟨g, 0, none⟩) (ns.length + 1) cap)) b t (s, ns ++ [capN n]) ∧ Below b w (w1.setCell ⟨b, 2, none⟩ (.slice (some ⟨g, 0, none⟩) (ns.length + 1) cap)) := by
  subst hnews
  have hb := h.rd.blk.lt
  have hvb : some b ≠ v.ownBlock := fun hc => by have := own_ge h.row hc.symm; omega
  have bl : ∀ k, k < w.heap.size → some k ≠ v.ownBlock → w1.heap[k]? = w.heap[k]? := fun k hk hne => by
    rw [hgrow.block k (by show k < ((w.alloc o1).alloc o2).heap.size; simp; omega) hne]
    show ((w.alloc o1).alloc o2).heap[k]? = _
    rw [Below.heap_alloc _ _ _ (by simp; omega), Below.heap_alloc _ _ _ hk]
  have e2 : ((w.alloc o1).alloc o2).drew.heap.size = w.heap.size + 1 + 1 := by
    show ((w.alloc o1).alloc o2).heap.size = _
    simp
  have gsz : w.heap.size ≤ w1.heap.size := by have := hgrow.size; omega
  have gw : w.grownBy w1 v.ownBlock := ⟨hgrow.os, hgrow.tape, hgrow.output, gsz, bl⟩
  have r1 : RD w1 b t s v := ⟨(bl b hb hvb).trans h.rd.blk, h.rd.fits, h.rd.small⟩
  have gb : ∀ u, w1.grownBy (w1.setCell ⟨b, 2, none⟩ u) (some b) := fun u => ⟨rfl, rfl, rfl, by simp [World.setCell], fun k hk hne => Below.heap_setCell _ _ _ _ (by rintro rfl; exact hne rfl)⟩
  have keepRow : ∀ {e z m : Nat} {y : Value} {ys : List Value} (u : Value), w1.ownsRow (b + 1) e z y m ys → (w1.setCell ⟨b, 2, none⟩ u).ownsRow (b + 1) e z y m ys := fun {e z m y ys} u hy => by
    refine hy.kept (gb u) ?_
    cases hv : y.ownBlock with
    | none => exact Or.inl rfl
    | some g => refine Or.inr ?_; have := own_ge hy hv; simp; omega
  have items1 : ∀ (y : IV) (its : List (Int × Int)), ItemsOk w (b + 1) y its → ItemsOk w1 (b + 1) y its := fun y its hy =>
    World.ownsRow.kept hy gw (own_ne hy h.row (by decide))
  refine ⟨r1, ⟨.slice (some ⟨g, 0, none⟩) (ns.length + 1) cap, xs ++ [x], ?_, ?_, ?_, ?_, ?_⟩, ?_⟩
  · exact ⟨Blk.set r1.blk 2 _, h.rd.fits, h.rd.small⟩
  · rw [nodesCells_snoc ns xs (capN n) x h.len, List.length_append]
    exact keepRow _ hown
  · simp [h.len]
  · intro i m y hm hy
    by_cases hi : i < ns.length
    · rw [List.getElem?_append_left hi] at hm
      rw [List.getElem?_append_left (by rw [h.len]; exact hi)] at hy
      exact keepRow _ (items1 y m.its (h.items i m y hm hy))
    · have hi2 : i = ns.length := by
        have := (List.getElem?_eq_some_iff.1 hm).1
        simp at this; omega
      subst hi2
      rw [List.getElem?_append_right (Nat.le_refl _), Nat.sub_self] at hm
      rw [List.getElem?_append_right (by rw [h.len]; exact Nat.le_refl _), h.len, Nat.sub_self] at hy
      simp at hm hy
      subst hm hy
      exact keepRow _ (items1 x n.its hx)
  · exact sized_snoc h.sized hn
  · have hbel : Below b w w1 := ⟨gw.os, gw.tape, gw.output, gw.size, fun k hk => bl k (by omega) (fun hc => by have := own_ge h.row hc.symm; omega)⟩
    exact hbel.setCell (Nat.le_refl _) _

set_option maxHeartbeats 1000000 in
set_option maxRecDepth 100000 in
theorem add_any (b : Nat) (t : ByteArray) (s : RS) (ns : List AN) (v : Value) (xs : List IV) (n : AN) (x : IV) (w : World) (h : NV w b t s ns v xs) (hl : ns.length ≤ 1000)
    (hx : ItemsOk w (b + 1) x n.its) (hn : 0 ≤ n.size) (hn' : n.size ≤ 1000) :
    Calls Try.prog 125 #[.pointer (some ⟨b, 0, none⟩), n.val x] w fun e w' => e = .returned (.int .i64 ((addS n (s, ns)).1 : Int)) ∧ NS w' b t (addS n (s, ns)).2 ∧ Below b w w' := by
  obtain ⟨i0, hi0, hz0, hz1, hz2⟩ := info_parts infoNode
  obtain ⟨ao, il, ic⟩ := x
  obtain ⟨kind, its, neg, left, right, least, most, size⟩ := n
  have hbw := h.rd.blk.lt
  have h2 := h.rd.c2
  have f2 := h.rd.f 2
  unfold AN.val
  by_cases hc : 61 < size
  · go_enter Try.func125, Try.ntmps125
    go_wp2_with fail
    have ow : ∀ o1 o2, ((w.alloc o1).alloc o2).ownsRow (b + 1) 119 8 v ns.length (nodesCells ns xs) := fun o1 o2 => (h.row.alloc o1).alloc o2
    have mb : ns.length + 1 ≤ maxLen := by unfold maxLen; omega
    have hsz : ∀ o1 o2, b + 1 ≤ ((w.alloc o1).alloc o2).heap.size := fun o1 o2 => by simp; omega
    go_region_law (refine step_append_owned rfl (.tmp 13) (.tmp 15) 55 rfl 119 i0 _ 8 80 Try.underlying55 hi0 hz0 hz1 hz2 rfl (by decide) (b + 1) v ns.length (nodesCells ns xs) (by simp [Act.eval, Act.put]) (by exact ow _ _) ⟨w.heap.size + 1, 0, none⟩ 1 1 [.int .i64 kind, .slice ao il ic, .bool neg, .int .i64 left, .int .i64 right, .int .i64 least, .int .i64 most, .int .i64 61] (by simp [Act.eval, Act.put]) rfl (by exact cells_new _ _ _ _ (by simp)) (by simp [Value.oneCell']) mb (by omega) (by exact hsz _ _) ?_; intro v' w1 hown hgrow; obtain ⟨g, cap, rfl⟩ := own_form hown (by omega); obtain ⟨r1, r2, r3⟩ := add_fin (n := ⟨kind, its, neg, left, right, least, most, size⟩) h hx hn _ _ g cap _ (by simp [AN.cells, capN, hc]) hown hgrow; have c2 := r1.c2; have g2 := r1.f 2)
    all_goals
      go_wp2
      go_ret
      exact ⟨ret_int (by simp only [addS]; first | done | omega), r2, r3⟩
  · have ecap : Hid ((if 61 < size then (61 : Int) else size) = size) := if_neg hc
    go_enter Try.func125, Try.ntmps125
    go_wp2_with fail
    have ow : ∀ o1 o2, ((w.alloc o1).alloc o2).ownsRow (b + 1) 119 8 v ns.length (nodesCells ns xs) := fun o1 o2 => (h.row.alloc o1).alloc o2
    have mb : ns.length + 1 ≤ maxLen := by unfold maxLen; omega
    have hsz : ∀ o1 o2, b + 1 ≤ ((w.alloc o1).alloc o2).heap.size := fun o1 o2 => by simp; omega
    go_region_law (refine step_append_owned rfl (.tmp 13) (.tmp 15) 55 rfl 119 i0 _ 8 80 Try.underlying55 hi0 hz0 hz1 hz2 rfl (by decide) (b + 1) v ns.length (nodesCells ns xs) (by simp [Act.eval, Act.put]) (by exact ow _ _) ⟨w.heap.size + 1, 0, none⟩ 1 1 [.int .i64 kind, .slice ao il ic, .bool neg, .int .i64 left, .int .i64 right, .int .i64 least, .int .i64 most, .int .i64 size] (by simp [Act.eval, Act.put]) rfl (by exact cells_new _ _ _ _ (by simp)) (by simp [Value.oneCell']) mb (by omega) (by exact hsz _ _) ?_; intro v' w1 hown hgrow; obtain ⟨g, cap, rfl⟩ := own_form hown (by omega); obtain ⟨r1, r2, r3⟩ := add_fin (n := ⟨kind, its, neg, left, right, least, most, size⟩) h hx hn _ _ g cap _ (by simp [AN.cells, capN, ecap.out]) hown hgrow; have c2 := r1.c2; have g2 := r1.f 2)
    all_goals
      go_wp2
      go_ret
      exact ⟨ret_int (by simp only [addS]; first | done | omega), r2, r3⟩

end Go.Proofs.Ytgifhgnccmnbiaa

set_option linter.unusedVariables false
set_option linter.unusedSimpArgs false
namespace Go.Proofs.Ytgifhgnccmnbiaa
open Go.RowKit Go.IntWalk

theorem items_nil (w : World) (base : Nat) : ItemsOk w base (none, 0, 0) [] := World.ownsRow_nil w _ _ _

theorem add_plain (b : Nat) (t : ByteArray) (s : RS) (ns : List AN) (v : Value) (xs : List IV) (kind left right least most size : Int) (w : World) (h : NV w b t s ns v xs) (hl : ns.length ≤ 1000) (hn : 0 ≤ size) (hn' : size ≤ 1000) :
    Calls Try.prog 125 #[.pointer (some ⟨b, 0, none⟩), .agg #[.int .i64 kind, .slice none 0 0, .bool false, .int .i64 left, .int .i64 right, .int .i64 least, .int .i64 most, .int .i64 size]] w fun e w' =>
      e = .returned (.int .i64 ((addS { kind := kind, left := left, right := right, least := least, most := most, size := size } (s, ns)).1 : Int)) ∧ NS w' b t (addS { kind := kind, left := left, right := right, least := least, most := most, size := size } (s, ns)).2 ∧ Below b w w' :=
  add_any b t s ns v xs { kind := kind, left := left, right := right, least := least, most := most, size := size } (none, 0, 0) w h hl (items_nil _ _) hn hn'

theorem add_items (b : Nat) (t : ByteArray) (s : RS) (ns : List AN) (v : Value) (xs : List IV) (ao : Option Addr) (il ic : Nat) (its : List (Int × Int)) (neg : Bool) (w : World) (h : NV w b t s ns v xs) (hl : ns.length ≤ 1000) (hx : ItemsOk w (b + 1) (ao, il, ic) its) :
    Calls Try.prog 125 #[.pointer (some ⟨b, 0, none⟩), .agg #[.int .i64 1, .slice ao il ic, .bool neg, .int .i64 0, .int .i64 0, .int .i64 0, .int .i64 0, .int .i64 1]] w fun e w' =>
      e = .returned (.int .i64 ((addS { kind := 1, its := its, neg := neg, size := 1 } (s, ns)).1 : Int)) ∧ NS w' b t (addS { kind := 1, its := its, neg := neg, size := 1 } (s, ns)).2 ∧ Below b w w' :=
  add_any b t s ns v xs { kind := 1, its := its, neg := neg, size := 1 } (ao, il, ic) w h hl hx (by show (0 : Int) ≤ 1; omega) (by show (1 : Int) ≤ 1000; omega)

set_option maxHeartbeats 400000 in
theorem join_any (b l r : Nat) (kind : Int) (t : ByteArray) (s : RS) (ns : List AN) (v : Value) (xs : List IV) (w : World) (h : NV w b t s ns v xs) (hl : l < ns.length) (hr : r < ns.length) (hm : ns.length ≤ 1000) :
    Calls Try.prog 90 #[.pointer (some ⟨b, 0, none⟩), .int .i64 kind, .int .i64 (l : Int), .int .i64 (r : Int)] w fun e w' =>
      e = .returned (.int .i64 ((joinS kind l r (s, ns)).1 : Int)) ∧ NS w' b t (joinS kind l r (s, ns)).2 ∧ Below b w w' := by
  have h1 := sizeAt_bd h.sized l
  have h2 := sizeAt_bd h.sized r
  go_enter Try.func90, Try.ntmps90
  go_wp2_with fail
  refine (size_any b l t s ns v xs _ h hl hm).mono ?_
  rintro e w1 ⟨rfl, rfl⟩
  go_wp2_with fail
  refine (size_any b r t s ns v xs _ h hr hm).mono ?_
  rintro e w1 ⟨rfl, rfl⟩
  go_wp2_with fail
  refine (add_plain b t s ns v xs kind l r 0 0 (sizeAt ns l + sizeAt ns r) _ h hm (by omega) (by omega)).mono ?_
  rintro e w1 ⟨rfl, hs, hb⟩
  go_wp2
  go_ret
  exact ⟨rfl, hs, hb⟩

set_option maxHeartbeats 1000000 in
theorem again_any (b p : Nat) (least most : Int) (t : ByteArray) (s : RS) (ns : List AN) (v : Value) (xs : List IV) (w : World) (h : NV w b t s ns v xs) (hp : p < ns.length) (hm : ns.length ≤ 1000)
    (l0 : 0 ≤ least) (l9 : least ≤ 9) (m0 : -1 ≤ most) (m9 : most ≤ 9) :
    Calls Try.prog 149 #[.pointer (some ⟨b, 0, none⟩), .int .i64 (p : Int), .int .i64 least, .int .i64 most] w fun e w' =>
      e = .returned (.int .i64 ((againS p (least, most) (s, ns)).1 : Int)) ∧ NS w' b t (againS p (least, most) (s, ns)).2 ∧ Below b w w' := by
  have h1 := sizeAt_bd h.sized p
  have bd : ∀ k : Int, 0 ≤ k → k ≤ 9 → 0 ≤ sizeAt ns p * k ∧ sizeAt ns p * k ≤ 549 := fun k a c => by
    have := Int.mul_nonneg h1.1 a
    have := Int.mul_le_mul h1.2 c a (by omega : (0 : Int) ≤ 61)
    omega
  have core : ∀ (tm : Int), timesS least most = tm → Calls Try.prog 125 #[.pointer (some ⟨b, 0, none⟩), .agg #[.int .i64 6, .slice none 0 0, .bool false, .int .i64 p, .int .i64 0, .int .i64 least, .int .i64 most, .int .i64 (sizeAt ns p * tm)]] w fun e w' =>
      e = .returned (.int .i64 ((againS p (least, most) (s, ns)).1 : Int)) ∧ NS w' b t (againS p (least, most) (s, ns)).2 ∧ Below b w w' := by
    intro tm ht
    have e : againS p (least, most) (s, ns) = addS { kind := 6, left := p, least := least, most := most, size := sizeAt ns p * tm } (s, ns) := by simp only [againS, ht]
    rw [e]
    have : 0 ≤ tm ∧ tm ≤ 9 := by rw [← ht]; unfold timesS; repeat' split
                                 all_goals omega
    have := bd tm this.1 this.2
    exact add_plain b t s ns v xs 6 p 0 least most (sizeAt ns p * tm) w h hm (by omega) (by omega)
  by_cases he : most = -1
  · subst he
    by_cases hl : least < 1
    · have e : timesS least (-1) = 1 := by unfold timesS; rw [if_pos rfl, if_pos hl]
      have hb := bd 1 (by omega) (by omega)
      have core := core 1 e
      clear e bd
      rw [Int.mul_one] at core
      go_enter Try.func149, Try.ntmps149
      go_wp2_with fail
      refine (size_any b p t s ns v xs _ h hp hm).mono ?_
      rintro e w1 ⟨rfl, rfl⟩
      go_wp2_with fail
      refine core.mono ?_
      rintro e w1 ⟨rfl, hs, hb⟩
      go_wp2
      go_ret
      exact ⟨rfl, hs, hb⟩
    · have e : timesS least (-1) = least := by unfold timesS; rw [if_pos rfl, if_neg hl]
      have hb := bd least (by omega) (by omega)
      have core := core _ e
      clear e bd
      go_enter Try.func149, Try.ntmps149
      go_wp2_with fail
      refine (size_any b p t s ns v xs _ h hp hm).mono ?_
      rintro e w1 ⟨rfl, rfl⟩
      go_wp2_with fail
      refine core.mono ?_
      rintro e w1 ⟨rfl, hs, hb⟩
      go_wp2
      go_ret
      exact ⟨rfl, hs, hb⟩
  · have hb0 : (most == -1) = false := by simpa using he
    by_cases hl : most < 1
    · have e : timesS least most = 1 := by unfold timesS; rw [if_neg he, if_pos hl]
      have hb := bd 1 (by omega) (by omega)
      have core := core 1 e
      clear e bd
      rw [Int.mul_one] at core
      go_enter Try.func149, Try.ntmps149
      go_wp2_with fail
      refine (size_any b p t s ns v xs _ h hp hm).mono ?_
      rintro e w1 ⟨rfl, rfl⟩
      go_wp2_with fail
      refine core.mono ?_
      rintro e w1 ⟨rfl, hs, hb⟩
      go_wp2
      go_ret
      exact ⟨rfl, hs, hb⟩
    · have e : timesS least most = most := by unfold timesS; rw [if_neg he, if_neg hl]
      have hb := bd most (by omega) (by omega)
      have core := core _ e
      clear e bd
      go_enter Try.func149, Try.ntmps149
      go_wp2_with fail
      refine (size_any b p t s ns v xs _ h hp hm).mono ?_
      rintro e w1 ⟨rfl, rfl⟩
      go_wp2_with fail
      refine core.mono ?_
      rintro e w1 ⟨rfl, hs, hb⟩
      go_wp2
      go_ret
      exact ⟨rfl, hs, hb⟩

end Go.Proofs.Ytgifhgnccmnbiaa

set_option linter.unusedVariables false
set_option linter.unusedSimpArgs false
namespace Go.Proofs.Ytgifhgnccmnbiaa
open Go.RowKit Go.IntWalk

theorem own_alloc {w : World} {base : Nat} {e : TypeId} {size : Nat} {v : Value} {n : Nat} {xs : List Value} (h : w.ownsRow base e size v n xs) (o : Obj) : (w.alloc o).ownsRow base e size v n xs := h.alloc o
theorem NV.alloc {w : World} {b : Nat} {t : ByteArray} {s : RS} {ns : List AN} {v : Value} {xs : List IV} (h : NV w b t s ns v xs) (o : Obj) : NV (w.alloc o) b t s ns v xs :=
  ⟨h.rd.kept (Kept.alloc (Kept.refl [] w) o) (by simp), h.row.alloc o, h.len, fun i n x a c => World.ownsRow.alloc (h.items i n x a c) o, h.sized⟩

theorem items_one (w : World) (base : Nat) (lo hi : Int) (k : Nat) (hk : k = w.heap.size) (hb : base ≤ w.heap.size) :
    ItemsOk (w.alloc (.cells #[.int .i64 lo, .int .i64 hi] 208)) base (some ⟨k, 0, none⟩, 1, 1) [(lo, hi)] := by
  subst hk
  exact ⟨rfl, .inr ⟨w.heap.size, 1, #[.int .i64 lo, .int .i64 hi], rfl, hb, heap_alloc_new w _, Nat.le_refl _, by unfold maxLen; omega, rfl, rfl⟩⟩

set_option maxHeartbeats 400000 in
theorem bytes_any (b : Nat) (lo hi : Int) (t : ByteArray) (s : RS) (ns : List AN) (v : Value) (xs : List IV) (w : World) (h : NV w b t s ns v xs) (hm : ns.length ≤ 1000) :
    Calls Try.prog 159 #[.pointer (some ⟨b, 0, none⟩), .agg #[.int .i64 lo, .int .i64 hi]] w fun e w' =>
      e = .returned (.int .i64 ((bytesS lo hi (s, ns)).1 : Int)) ∧ NS w' b t (bytesS lo hi (s, ns)).2 ∧ Below b w w' := by
  have hb := h.rd.blk.lt
  go_enter Try.func159, Try.ntmps159
  go_wp2_with fail
  refine (add_items b t s ns v xs (some ⟨w.heap.size + 1, 0, none⟩) 1 1 [(lo, hi)] false _ ((h.alloc _).alloc _) hm (items_one _ _ _ _ _ (by simp) (by simp; omega))).mono ?_
  rintro e w1 ⟨rfl, hs, hbel⟩
  go_wp2
  go_ret
  exact ⟨rfl, hs, (((Below.refl _ _).alloc (by omega) _).alloc (by simp; omega) _).trans hbel⟩

theorem infoItem : (Try.prog.info? 208).map (fun i => (i.zero, i.size, i.bytes)) = some (some (.agg #[.int .i64 0, .int .i64 0]), 2, 16) := by kernel_rfl

def lenOf : Value → Nat | .slice _ n _ => n | _ => 0

theorem own_mono {w : World} {base base' : Nat} {e : TypeId} {size : Nat} {v : Value} {n : Nat} {xs : List Value} (h : w.ownsRow base e size v n xs) (hb : base' ≤ base) : w.ownsRow base' e size v n xs := by
  refine ⟨h.1, ?_⟩
  rcases h.2 with h2 | ⟨g, c, u, h3, h4, r⟩
  · exact Or.inl h2
  · exact Or.inr ⟨g, c, u, h3, Nat.le_trans hb h4, r⟩

theorem ItemsOk.scan {w w' : World} {b B : Nat} {x : IV} {its : List (Int × Int)} (h : ItemsOk w B x its) (k : Kept [b] w w') (hB : b < B) : ItemsOk w' B x its := by
  have gr : w.grownBy w' (some b) := ⟨k.os, k.tape, k.output, k.size, fun i hi hn => k.block i hi (by simpa using hn)⟩
  refine World.ownsRow.kept h gr ?_
  cases hv : (ivV x).ownBlock with
  | none => exact Or.inl rfl
  | some g => refine Or.inr ?_; have := own_ge h hv; simp; omega

/-- The nodes' items lie below B. -/
def OldItems (ns : List AN) (xs : List IV) (B : Nat) : Prop := ∀ (i : Nat) (n : AN) (y : IV), ns[i]? = some n → xs[i]? = some y → ∀ g, (ivV y).ownBlock = some g → g < B
theorem NV.old {w : World} {b : Nat} {t : ByteArray} {s : RS} {ns : List AN} {v : Value} {xs : List IV} (h : NV w b t s ns v xs) : OldItems ns xs w.heap.size :=
  fun i n y hn hy g hg => (World.ownsRow.lt (h.items i n y hn hy) g hg).2

/-- What is left behind the append of an item. -/
theorem items_more {b B : Nat} {t : ByteArray} {s : RS} {ns : List AN} {v : Value} {xs : List IV} {w w1 : World} {x : IV} {its : List (Int × Int)} {y : Int × Int} (h : NV w b t s ns v xs) (hx : ItemsOk w B x its)
    (hB : b < B) (ho : OldItems ns xs B)
    (v' : Value) (hown : w1.ownsRow B 208 2 v' (its.length + 1) (itemCells its ++ [.int .i64 y.1, .int .i64 y.2])) (hgrow : w.grownBy w1 (ivV x).ownBlock) :
    ∃ ao il ic, v' = .slice ao il ic ∧ ItemsOk w1 B (ao, il, ic) (its ++ [y]) ∧ NV w1 b t s ns v xs ∧ Below b w w1 ∧ il = its.length + 1 := by
  obtain ⟨g, cap, rfl⟩ := own_form hown (by omega)
  have hge : ∀ k, (ivV x).ownBlock = some k → B ≤ k := fun k hk => own_ge hx hk
  refine ⟨_, _, _, rfl, ?_, ⟨⟨(hgrow.block b h.rd.blk.lt ?_).trans h.rd.blk, h.rd.fits, h.rd.small⟩, h.row.kept hgrow (own_ne h.row hx (by decide)), h.len, fun i n z hn hz => ?_, h.sized⟩, ?_, rfl⟩
  · unfold ItemsOk
    rw [itemCells_snoc, List.length_append]
    exact hown
  · intro hc; have := hge b hc.symm; omega
  · refine World.ownsRow.kept (h.items i n z hn hz) hgrow ?_
    cases hv : (ivV z).ownBlock with
    | none => exact Or.inl rfl
    | some g =>
      refine Or.inr (fun hc => ?_)
      have h1 := ho i n z hn hz g hv
      have h2 := hge g hc.symm
      omega
  · exact ⟨hgrow.os, hgrow.tape, hgrow.output, hgrow.size, fun k hk => hgrow.block k (by have := h.rd.blk.lt; omega) (fun hc => by have := hge k hc.symm; omega)⟩

set_option maxHeartbeats 2000000 in
set_option maxRecDepth 100000 in
theorem list_any (b : Nat) (t : ByteArray) (s : RS) (ns : List AN) (v : Value) (xs : List IV) (w : World) (h : NV w b t s ns v xs) (hm : ns.length ≤ 1000) :
    Calls Try.prog 158 #[.pointer (some ⟨b, 0, none⟩)] w fun e w' =>
      e = .returned (.int .i64 ((listS t (s, ns)).1 : Int)) ∧ NS w' b t (listS t (s, ns)).2 ∧ Below b w w' := by
  have hb := h.rd.blk.lt
  obtain ⟨i0, hi0, hz0, hz1, hz2⟩ := info_parts infoItem
  go_enter Try.func158, Try.ntmps158
  go_wp2_with fail
  refine (take_any b 94 t s v _ h.rd (by omega) (by omega)).mono ?_
  rintro e w1 ⟨rfl, h1, k1⟩
  have n1 := h.scan h1 k1
  have b1 : Below b w w1 := k1.below (by omega) (by simp)
  clear k1 h1
  have hB : b < w1.heap.size := n1.rd.blk.lt
  obtain ⟨B, hBe⟩ : ∃ B, B = w1.heap.size := ⟨_, rfl⟩
  have ho : OldItems ns xs B := by rw [hBe]; exact n1.old
  have hBw : B ≤ w1.heap.size := by omega
  rw [← hBe] at hB
  clear hBe
  have hsm : Hid (t.size ≤ 40) := h.rd.small
  go_wp2_with fail
  go_loopw [4] (fun it wr => ∃ its ao il ic s', it = .slice ao il ic ∧ ItemsOk wr B (ao, il, ic) its ∧ B ≤ wr.heap.size ∧ NV wr b t s' ns v xs ∧ Below b w wr ∧ itemsS t s' its = itemsS t (takeS t 94 s).2 [] ∧ il = its.length ∧ its.length ≤ s'.1) (fun it _ => 41 - lenOf it)
  case atStart => exact ⟨[], none, 0, 0, _, rfl, items_nil _ _, hBw, n1, b1, rfl, rfl, Nat.zero_le _⟩
  case round =>
    obtain ⟨its, ao, il, ic, s', rfl, hi, hBr, hn, hbel, hit, rfl, hle⟩ := hrel
    have hfit := hn.rd.fits
    have hbr := hn.rd.blk.lt
    have hit : Hid (_ = _) := hit
    by_cases hq : itemQ t s' = true
    · have hlt := itemQ_lt hq
      have hgt := item_gt hlt
      have hon : Hid (_ = _) := itemsS_on (acc := its) hq
      go_wp2_with fail
      refine (atItem_any b t s' v _ hn.rd).mono ?_
      rintro e w2 ⟨rfl, rfl⟩
      go_wp2_with fail
      refine (item_any b t s' v _ hn.rd).mono ?_
      rintro e w2 ⟨rfl, h2, k2⟩
      have n2 := hn.scan h2 k2
      have i2 := hi.scan k2 hB
      have hB2 : B ≤ w2.heap.size := Nat.le_trans hBr k2.size
      have b2 := hbel.trans (k2.below (by omega) (by simp))
      go_wp2_with (at_builtin; refine wpList_append_own _ rfl (.tmp 13) (.tmp 15) 117 rfl B 208 i0 _ 2 16 Try.underlying117 hi0 hz0 hz1 hz2 rfl (by decide) (ivV (ao, its.length, ic)) its.length (itemCells its) rfl ?own ⟨w2.heap.size + 1, 0, none⟩ 1 1 [.int .i64 (itemS t s').1.1, .int .i64 (itemS t s').1.2] rfl rfl ?c1 ?c2 ?b1 ?b2 ?b3 ?k)
      case own => exact (World.ownsRow.alloc i2 _).alloc _
      case c1 => exact cells_new _ _ _ _ (by simp)
      case c2 => simp [Value.oneCell']
      case b1 => unfold maxLen; have := hsm.out; simp only [Fits] at hfit; omega
      case b2 => have := hsm.out; simp only [Fits] at hfit; omega
      case b3 => simp; omega
      case k =>
        intro v' w3 hown hgrow hnil
        obtain ⟨ao', il', ic', rfl, i3, n3, b3, rfl⟩ := items_more (x := (ao, its.length, ic)) ((n2.alloc _).alloc _) (World.ownsRow.alloc (World.ownsRow.alloc i2 _) _) hB ho v' hown hgrow
        go_wp2
        refine ⟨⟨its ++ [(itemS t s').1], ao', its.length + 1, ic', (itemS t s').2, rfl, i3, by have := hgrow.size; simp at this; omega, n3, b2.trans ((((Below.refl _ _).alloc (by have := n2.rd.blk.lt; omega) _).alloc (by have := n2.rd.blk.lt; simp; omega) _).trans b3), hon.out.symm.trans hit.out, by simp, by simp; omega⟩, ?_⟩
        have := hsm.out
        simp only [lenOf]
        omega
    · have hf : itemQ t s' = false := by simpa using hq
      have hoff : Hid (_ = _) := itemsS_off (acc := its) hf
      clear hq
      go_wp2_with fail
      refine (atItem_any b t s' v _ hn.rd).mono ?_
      rintro e w2 ⟨rfl, rfl⟩
      have hI : Hid (itemsS t (takeS t 94 s).2 [] = (its, s')) := hit.out.symm.trans hoff.out
      clear hit hoff
      have hL : its.length ≤ 40 := by have := hsm.out; simp only [Fits] at hfit; omega
      have fin : ∀ (s2 : RS), (if (takeS t 93 s').1 = false ∨ its.length = 0 then failS t else (takeS t 93 s').2) = s2 → Hid (listS t (s, ns) = addS { kind := 1, its := its, neg := (takeS t 94 s).1, size := 1 } (s2, ns)) := by
        intro s2 e
        show listS t (s, ns) = _
        unfold listS
        simp only []
        rw [hI.out]
        simp only []
        rw [e]
      by_cases hc : (takeS t 93 s').1 = false
      · have e := fin _ (if_pos (Or.inl hc))
        clear fin hI
        go_wp2_with fail
        refine (take_any b 93 t s' v _ hn.rd (by omega) (by omega)).mono ?_
        rintro e1 w3 ⟨rfl, h3, k3⟩
        have n3 := hn.scan h3 k3
        have i3 := hi.scan k3 hB
        have b3 := hbel.trans (k3.below (by omega) (by simp))
        go_wp2_with fail
        refine (fail_any b t _ v _ h3).mono ?_
        rintro e1 w4 ⟨rfl, h4, k4⟩
        have n4 := n3.scan h4 k4
        have i4 := i3.scan k4 hB
        have b4 := b3.trans (k4.below (by have := h3.blk.lt; omega) (by simp))
        go_wp2_with fail
        refine (add_items b t _ ns v xs ao its.length ic its _ _ n4 hm (own_mono i4 hB)).mono ?_
        rw [← e.out]
        rintro e1 w5 ⟨rfl, h5, b5⟩
        go_wp2
        go_ret
        exact ⟨rfl, h5, b4.trans b5⟩
      have hc : (takeS t 93 s').1 = true := by simpa using hc
      by_cases hz : its.length = 0
      · have e := fin _ (if_pos (Or.inr hz))
        clear fin hI
        obtain rfl := List.length_eq_zero_iff.1 hz
        clear hz
        go_wp2_with fail
        refine (take_any b 93 t s' v _ hn.rd (by omega) (by omega)).mono ?_
        rintro e1 w3 ⟨rfl, h3, k3⟩
        have n3 := hn.scan h3 k3
        have i3 := hi.scan k3 hB
        have b3 := hbel.trans (k3.below (by omega) (by simp))
        go_wp2_with fail
        refine (fail_any b t _ v _ h3).mono ?_
        rintro e1 w4 ⟨rfl, h4, k4⟩
        have n4 := n3.scan h4 k4
        have i4 := i3.scan k4 hB
        have b4 := b3.trans (k4.below (by have := h3.blk.lt; omega) (by simp))
        go_wp2_with fail
        refine (add_items b t _ ns v xs ao 0 ic [] _ _ n4 hm (own_mono i4 hB)).mono ?_
        rw [← e.out]
        rintro e1 w5 ⟨rfl, h5, b5⟩
        go_wp2
        go_ret
        exact ⟨rfl, h5, b4.trans b5⟩
      · have e := fin _ (if_neg (by rw [hc]; simpa using hz))
        clear fin hI
        have hz' : (((its.length : Nat) : Int) == 0) = false := by simpa using hz
        clear hz
        go_wp2_with fail
        refine (take_any b 93 t s' v _ hn.rd (by omega) (by omega)).mono ?_
        rintro e1 w3 ⟨rfl, h3, k3⟩
        have n3 := hn.scan h3 k3
        have i3 := hi.scan k3 hB
        have b3 := hbel.trans (k3.below (by omega) (by simp))
        go_wp2_with fail
        refine (add_items b t _ ns v xs ao its.length ic its _ _ n3 hm (own_mono i3 hB)).mono ?_
        rw [← e.out]
        rintro e1 w5 ⟨rfl, h5, b5⟩
        go_wp2
        go_ret
        exact ⟨rfl, h5, b3.trans b5⟩

end Go.Proofs.Ytgifhgnccmnbiaa
