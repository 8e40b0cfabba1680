/- The reader of patterns: the reader's questions, members, items, digits and braces. -/
import Derived.Test.YtgifhgnccmnbiaaRd
set_option linter.unusedVariables false
set_option linter.unusedSimpArgs false
namespace Go.Proofs.Ytgifhgnccmnbiaa
open Go.RowKit Go.IntWalk

set_option maxHeartbeats 400000 in
theorem atEnd_any (b : Nat) (t : ByteArray) (s : RS) (v : Value) (w : World) (h : RD w b t s v) :
    Calls Try.prog 124 #[.pointer (some ⟨b, 0, none⟩)] w fun e w' => e = .returned (.bool (endS t s)) ∧ w' = w := by
  go_enter Try.func124, Try.ntmps124
  go_wp2_with (first | (go_at_call 127; refine (peek0 b t s v _ h).mono ?_; rintro e w' ⟨rfl, rfl⟩))
  all_goals go_ret
  all_goals exact ⟨ret_bool (by simp [endS, *]), rfl⟩

set_option maxHeartbeats 400000 in
theorem atRep_any (b : Nat) (t : ByteArray) (s : RS) (v : Value) (w : World) (h : RD w b t s v) :
    Calls Try.prog 147 #[.pointer (some ⟨b, 0, none⟩)] w fun e w' => e = .returned (.bool (repS t s)) ∧ w' = w := by
  go_enter Try.func147, Try.ntmps147
  go_wp2_with (first | (go_at_call 127; refine (peek0 b t s v _ h).mono ?_; rintro e w' ⟨rfl, rfl⟩))
  all_goals go_ret
  all_goals exact ⟨ret_bool (by simp [repS, *]), rfl⟩

set_option maxHeartbeats 400000 in
theorem atItem_any (b : Nat) (t : ByteArray) (s : RS) (v : Value) (w : World) (h : RD w b t s v) :
    Calls Try.prog 162 #[.pointer (some ⟨b, 0, none⟩)] w fun e w' => e = .returned (.bool (itemQ t s)) ∧ w' = w := by
  go_enter Try.func162, Try.ntmps162
  go_wp2_with (first | (go_at_call 127; refine (peek0 b t s v _ h).mono ?_; rintro e w' ⟨rfl, rfl⟩))
  all_goals go_ret
  all_goals exact ⟨ret_bool (by simp [itemQ, *]), rfl⟩

set_option maxHeartbeats 400000 in
theorem atSec_any (b : Nat) (t : ByteArray) (s : RS) (v : Value) (w : World) (h : RD w b t s v) :
    Calls Try.prog 167 #[.pointer (some ⟨b, 0, none⟩)] w fun e w' => e = .returned (.bool (secS t s)) ∧ w' = w := by
  go_enter Try.func167, Try.ntmps167
  go_wp2_with fail
  refine (peek0 b t s v _ h).mono ?_
  rintro e w' ⟨rfl, rfl⟩
  go_wp2_with fail
  refine (peek1 b t s v _ h).mono ?_
  rintro e w' ⟨rfl, rfl⟩
  go_wp2
  all_goals go_ret
  all_goals exact ⟨ret_bool (by simp [secS, *]), rfl⟩

set_option maxHeartbeats 400000 in
theorem member_any (b : Nat) (t : ByteArray) (s : RS) (v : Value) (w : World) (h : RD w b t s v) :
    Calls Try.prog 166 #[.pointer (some ⟨b, 0, none⟩)] w fun e w' => e = .returned (.int .i64 (memS t s).1) ∧ RD w' b t (memS t s).2 v ∧ Kept [b] w w' := by
  by_cases hn : (nextS t s).1 = 92
  · have hb : ((nextS t s).1 == 92) = true := by rw [hn]; rfl
    have e : memS t s = nextS t (nextS t s).2 := if_pos hn
    rw [e]
    clear hn e
    go_enter Try.func166, Try.ntmps166
    go_wp2_with fail
    refine (next_any b t s v _ h).mono ?_
    rintro e w1 ⟨rfl, h1, k1⟩
    go_wp2_with fail
    refine (next_any b t _ v _ h1).mono ?_
    rintro e w2 ⟨rfl, h2, k2⟩
    go_wp2
    go_ret
    exact ⟨rfl, h2, k1.trans k2⟩
  · have hb : ((nextS t s).1 == 92) = false := by simpa using hn
    have e : memS t s = nextS t s := if_neg hn
    rw [e]
    clear hn e
    go_enter Try.func166, Try.ntmps166
    go_wp2_with fail
    refine (next_any b t s v _ h).mono ?_
    rintro e w1 ⟨rfl, h1, k1⟩
    go_wp2
    go_ret
    exact ⟨rfl, h1, k1⟩

set_option maxHeartbeats 400000 in
theorem digit_any (b : Nat) (t : ByteArray) (s : RS) (v : Value) (w : World) (h : RD w b t s v) :
    Calls Try.prog 164 #[.pointer (some ⟨b, 0, none⟩)] w fun e w' => e = .returned (.int .i64 (digS t s).1) ∧ RD w' b t (digS t s).2 v ∧ Kept [b] w w' := by
  have hbd := next_bd t s
  by_cases hn : (nextS t s).1 < 48
  · have e : digS t s = (0, failS t) := if_pos (Or.inl hn)
    rw [e]
    clear e
    go_enter Try.func164, Try.ntmps164
    go_wp2_with fail
    refine (next_any b t s v _ h).mono ?_
    rintro e w1 ⟨rfl, h1, k1⟩
    go_wp2_with fail
    refine (fail_any b t _ v _ h1).mono ?_
    rintro e w2 ⟨rfl, h2, k2⟩
    go_wp2
    go_ret
    exact ⟨rfl, h2, k1.trans k2⟩
  by_cases hm : 57 < (nextS t s).1
  · have e : digS t s = (0, failS t) := if_pos (Or.inr hm)
    rw [e]
    clear e
    go_enter Try.func164, Try.ntmps164
    go_wp2_with fail
    refine (next_any b t s v _ h).mono ?_
    rintro e w1 ⟨rfl, h1, k1⟩
    go_wp2_with fail
    refine (fail_any b t _ v _ h1).mono ?_
    rintro e w2 ⟨rfl, h2, k2⟩
    go_wp2
    go_ret
    exact ⟨rfl, h2, k1.trans k2⟩
  · have e : digS t s = ((nextS t s).1 - 48, (nextS t s).2) := if_neg (by omega)
    rw [e]
    clear e
    go_enter Try.func164, Try.ntmps164
    go_wp2_with fail
    refine (next_any b t s v _ h).mono ?_
    rintro e w1 ⟨rfl, h1, k1⟩
    go_wp2
    go_ret
    exact ⟨rfl, h1, k1⟩

set_option maxHeartbeats 400000 in
theorem upper_any (b : Nat) (t : ByteArray) (s : RS) (v : Value) (w : World) (h : RD w b t s v) :
    Calls Try.prog 165 #[.pointer (some ⟨b, 0, none⟩)] w fun e w' => e = .returned (.int .i64 (upS t s).1) ∧ RD w' b t (upS t s).2 v ∧ Kept [b] w w' := by
  by_cases hn : pk t s.1 = 125
  · have hb : (pk t s.1 == 125) = true := by rw [hn]; rfl
    have e : upS t s = (-1, s) := if_pos hn
    rw [e]
    clear hn e
    go_enter Try.func165, Try.ntmps165
    go_wp2_with fail
    refine (peek0 b t s v _ h).mono ?_
    rintro e w1 ⟨rfl, rfl⟩
    go_wp2
    go_ret
    exact ⟨rfl, h, Kept.refl _ _⟩
  · have hb : (pk t s.1 == 125) = false := by simpa using hn
    have e : upS t s = digS t s := if_neg hn
    rw [e]
    clear hn e
    go_enter Try.func165, Try.ntmps165
    go_wp2_with fail
    refine (peek0 b t s v _ h).mono ?_
    rintro e w1 ⟨rfl, rfl⟩
    go_wp2_with fail
    refine (digit_any b t s v _ h).mono ?_
    rintro e w1 ⟨rfl, h1, k1⟩
    go_wp2
    go_ret
    exact ⟨rfl, h1, k1⟩

end Go.Proofs.Ytgifhgnccmnbiaa
