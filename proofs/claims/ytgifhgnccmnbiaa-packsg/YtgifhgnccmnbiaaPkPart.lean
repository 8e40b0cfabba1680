/- Package packed: what is told of a part of a text, walked. -/
import Derived.Test.YtgifhgnccmnbiaaPkPure
import Derived.Test.YtgifhgnccmnbiaaNodes
set_option linter.unusedVariables false
set_option linter.unusedSimpArgs false
namespace Go.Proofs.Ytgifhgnccmnbiaa
open Go.RowKit Go.IntWalk

def PT.arr (p : PT) : Array Value := #[.int .i64 p.len, .int .i64 p.nl, .int .i64 p.first, .int .i64 p.last]
def PT.val (p : PT) : Value := .agg p.arr
structure PTsmall (p : PT) : Prop where
  len : p.len ≤ 1099511627777
  nl : p.nl ≤ 1099511627777
theorem ptOf_small (t : List Nat) : PTsmall (ptOf t) := ⟨by rw [ptOf_len]; exact capL_le _, by rw [ptOf_nl]; exact capL_le _⟩
theorem byteP_small (c : Nat) : PTsmall (byteP c) := by rw [← ptOf_one]; exact ptOf_small _
theorem joinP_small {a b : PT} (ha : PTsmall a) (hb : PTsmall b) : PTsmall (joinP a b) := by
  unfold joinP
  split
  · exact hb
  · split
    · exact ha
    · exact ⟨capL_le _, capL_le _⟩

set_option maxHeartbeats 400000 in
theorem bounded_any (n : Nat) (hn : n ≤ 3000000000000) (w : World) : Calls Try.prog 155 #[.int .i64 (n : Int)] w fun e w' => e = .returned (.int .i64 (capL n : Int)) ∧ w' = w := by
  unfold capL
  by_cases h : (1099511627777 : Int) < (n : Int)
  · rw [if_pos (by omega)]
    go_enter Try.func155, Try.ntmps155
    go_wp2
    go_ret
    exact ⟨rfl, rfl⟩
  · rw [if_neg (by omega)]
    go_enter Try.func155, Try.ntmps155
    go_wp2
    go_ret
    exact ⟨rfl, rfl⟩

set_option maxHeartbeats 400000 in
theorem partOfByte_any (c : Nat) (w : World) : Calls Try.prog 145 #[.int .i64 (c : Int)] w fun e w' => e = .returned (byteP c).val ∧ Kept [] w w' := by
  have hk : Hid (∀ o1 o2, Kept [] w ((w.alloc o1).alloc o2)) := fun o1 o2 => ((Kept.refl [] w).alloc _).alloc _
  unfold byteP PT.val PT.arr
  by_cases h : (c : Int) = 10
  · rw [if_pos (by omega)]
    have hc : c = 10 := by omega
    subst hc
    clear h
    go_enter Try.func145, Try.ntmps145
    go_wp2
    refine bodyPost_ret (v := .agg #[.int .i64 1, .int .i64 1, .int .i64 10, .int .i64 10]) (by simp [results, Try.results145, go_sem]) rfl ⟨rfl, hk.out _ _⟩
  · rw [if_neg (by omega)]
    have hb : ((c : Int) == 10) = false := beq_eq_false_iff_ne.2 h
    go_enter Try.func145, Try.ntmps145
    go_wp2
    refine bodyPost_ret (v := .agg #[.int .i64 1, .int .i64 0, .int .i64 c, .int .i64 c]) (by simp [results, Try.results145, go_sem]) rfl ⟨rfl, hk.out _ _⟩

set_option maxHeartbeats 1000000 in
set_option maxRecDepth 100000 in
theorem pjoin_any (a b : PT) (ha : PTsmall a) (hb : PTsmall b) (w : World) : Calls Try.prog 140 #[a.val, b.val] w fun e w' => e = .returned (joinP a b).val ∧ Kept [] w w' := by
  have hk : Hid (∀ o1 o2 o3, Kept [] w (((w.alloc o1).alloc o2).alloc o3)) := fun o1 o2 o3 => (((Kept.refl [] w).alloc _).alloc _).alloc _
  obtain ⟨a1, a2, a3, a4⟩ := a
  obtain ⟨b1, b2, b3, b4⟩ := b
  obtain ⟨ha1, ha2⟩ := ha
  obtain ⟨hb1, hb2⟩ := hb
  simp only [] at ha1 ha2 hb1 hb2
  unfold joinP PT.val PT.arr
  simp only []
  by_cases h1 : a1 = 0
  · subst h1
    rw [if_pos rfl]
    go_enter Try.func140, Try.ntmps140
    go_wp2
    refine bodyPost_ret (v := .agg #[.int .i64 b1, .int .i64 b2, .int .i64 b3, .int .i64 b4]) (by simp [results, Try.results140, go_sem]) rfl ⟨rfl, hk.out _ _ _⟩
  · rw [if_neg h1]
    have e1 : ((a1 : Int) == 0) = false := beq_eq_false_iff_ne.2 (by omega)
    by_cases h2 : b1 = 0
    · subst h2
      rw [if_pos rfl]
      go_enter Try.func140, Try.ntmps140
      go_wp2
      refine bodyPost_ret (v := .agg #[.int .i64 a1, .int .i64 a2, .int .i64 a3, .int .i64 a4]) (by simp [results, Try.results140, go_sem]) rfl ⟨rfl, hk.out _ _ _⟩
    · rw [if_neg h2]
      have e2 : ((b1 : Int) == 0) = false := beq_eq_false_iff_ne.2 (by omega)
      have g1 := fun w => bounded_any (a1 + b1) (by omega) w
      have g2 := fun w => bounded_any (a2 + b2) (by omega) w
      simp only [Int.natCast_add] at g1 g2
      have g1 : Hid (∀ w, _) := g1
      have g2 : Hid (∀ w, _) := g2
      clear h1 h2
      generalize capL (a1 + b1) = L1 at *
      generalize capL (a2 + b2) = L2 at *
      go_enter Try.func140, Try.ntmps140
      go_wp2_with fail
      refine (g1.out _).mono ?_
      rintro e w1 ⟨rfl, rfl⟩
      go_wp2_with fail
      refine (g2.out _).mono ?_
      rintro e w1 ⟨rfl, rfl⟩
      go_wp2
      refine bodyPost_ret (v := .agg #[.int .i64 L1, .int .i64 L2, .int .i64 a3, .int .i64 b4]) (by simp [results, Try.results140, go_sem]) rfl ⟨rfl, hk.out _ _ _⟩

end Go.Proofs.Ytgifhgnccmnbiaa
