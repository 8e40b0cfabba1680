/- The reader of patterns: join, again, bytes: a node out of others. -/
import Derived.Test.YtgifhgnccmnbiaaAdd
set_option linter.unusedVariables false
set_option linter.unusedSimpArgs false
namespace Go.Proofs.Ytgifhgnccmnbiaa
open Go.RowKit Go.IntWalk

theorem items_nil (w : World) (base : Nat) : ItemsOk w base (none, 0, 0) [] := World.ownsRow_nil w _ _ _

theorem add_plain (b : Nat) (t : ByteArray) (s : RS) (ns : List AN) (v : Value) (xs : List IV) (kind left right least most size : Int) (w : World) (h : NV w b t s ns v xs) (hl : ns.length ≤ 1000) (hn : 0 ≤ size) (hn' : size ≤ 1000) :
    Calls Try.prog 125 #[.pointer (some ⟨b, 0, none⟩), .agg #[.int .i64 kind, .slice none 0 0, .bool false, .int .i64 left, .int .i64 right, .int .i64 least, .int .i64 most, .int .i64 size]] w fun e w' =>
      e = .returned (.int .i64 ((addS { kind := kind, left := left, right := right, least := least, most := most, size := size } (s, ns)).1 : Int)) ∧ NS w' b t (addS { kind := kind, left := left, right := right, least := least, most := most, size := size } (s, ns)).2 ∧ Below b w w' :=
  add_any b t s ns v xs { kind := kind, left := left, right := right, least := least, most := most, size := size } (none, 0, 0) w h hl (items_nil _ _) hn hn'

theorem add_items (b : Nat) (t : ByteArray) (s : RS) (ns : List AN) (v : Value) (xs : List IV) (ao : Option Addr) (il ic : Nat) (its : List (Int × Int)) (neg : Bool) (w : World) (h : NV w b t s ns v xs) (hl : ns.length ≤ 1000) (hx : ItemsOk w (b + 1) (ao, il, ic) its) :
    Calls Try.prog 125 #[.pointer (some ⟨b, 0, none⟩), .agg #[.int .i64 1, .slice ao il ic, .bool neg, .int .i64 0, .int .i64 0, .int .i64 0, .int .i64 0, .int .i64 1]] w fun e w' =>
      e = .returned (.int .i64 ((addS { kind := 1, its := its, neg := neg, size := 1 } (s, ns)).1 : Int)) ∧ NS w' b t (addS { kind := 1, its := its, neg := neg, size := 1 } (s, ns)).2 ∧ Below b w w' :=
  add_any b t s ns v xs { kind := 1, its := its, neg := neg, size := 1 } (ao, il, ic) w h hl hx (by show (0 : Int) ≤ 1; omega) (by show (1 : Int) ≤ 1000; omega)

set_option maxHeartbeats 400000 in
theorem join_any (b l r : Nat) (kind : Int) (t : ByteArray) (s : RS) (ns : List AN) (v : Value) (xs : List IV) (w : World) (h : NV w b t s ns v xs) (hl : l < ns.length) (hr : r < ns.length) (hm : ns.length ≤ 1000) :
    Calls Try.prog 90 #[.pointer (some ⟨b, 0, none⟩), .int .i64 kind, .int .i64 (l : Int), .int .i64 (r : Int)] w fun e w' =>
      e = .returned (.int .i64 ((joinS kind l r (s, ns)).1 : Int)) ∧ NS w' b t (joinS kind l r (s, ns)).2 ∧ Below b w w' := by
  have h1 := sizeAt_bd h.sized l
  have h2 := sizeAt_bd h.sized r
  go_enter Try.func90, Try.ntmps90
  go_wp2_with fail
  refine (size_any b l t s ns v xs _ h hl hm).mono ?_
  rintro e w1 ⟨rfl, rfl⟩
  go_wp2_with fail
  refine (size_any b r t s ns v xs _ h hr hm).mono ?_
  rintro e w1 ⟨rfl, rfl⟩
  go_wp2_with fail
  refine (add_plain b t s ns v xs kind l r 0 0 (sizeAt ns l + sizeAt ns r) _ h hm (by omega) (by omega)).mono ?_
  rintro e w1 ⟨rfl, hs, hb⟩
  go_wp2
  go_ret
  exact ⟨rfl, hs, hb⟩

set_option maxHeartbeats 1000000 in
theorem again_any (b p : Nat) (least most : Int) (t : ByteArray) (s : RS) (ns : List AN) (v : Value) (xs : List IV) (w : World) (h : NV w b t s ns v xs) (hp : p < ns.length) (hm : ns.length ≤ 1000)
    (l0 : 0 ≤ least) (l9 : least ≤ 9) (m0 : -1 ≤ most) (m9 : most ≤ 9) :
    Calls Try.prog 149 #[.pointer (some ⟨b, 0, none⟩), .int .i64 (p : Int), .int .i64 least, .int .i64 most] w fun e w' =>
      e = .returned (.int .i64 ((againS p (least, most) (s, ns)).1 : Int)) ∧ NS w' b t (againS p (least, most) (s, ns)).2 ∧ Below b w w' := by
  have h1 := sizeAt_bd h.sized p
  have bd : ∀ k : Int, 0 ≤ k → k ≤ 9 → 0 ≤ sizeAt ns p * k ∧ sizeAt ns p * k ≤ 549 := fun k a c => by
    have := Int.mul_nonneg h1.1 a
    have := Int.mul_le_mul h1.2 c a (by omega : (0 : Int) ≤ 61)
    omega
  have core : ∀ (tm : Int), timesS least most = tm → Calls Try.prog 125 #[.pointer (some ⟨b, 0, none⟩), .agg #[.int .i64 6, .slice none 0 0, .bool false, .int .i64 p, .int .i64 0, .int .i64 least, .int .i64 most, .int .i64 (sizeAt ns p * tm)]] w fun e w' =>
      e = .returned (.int .i64 ((againS p (least, most) (s, ns)).1 : Int)) ∧ NS w' b t (againS p (least, most) (s, ns)).2 ∧ Below b w w' := by
    intro tm ht
    have e : againS p (least, most) (s, ns) = addS { kind := 6, left := p, least := least, most := most, size := sizeAt ns p * tm } (s, ns) := by simp only [againS, ht]
    rw [e]
    have : 0 ≤ tm ∧ tm ≤ 9 := by rw [← ht]; unfold timesS; repeat' split
                                 all_goals omega
    have := bd tm this.1 this.2
    exact add_plain b t s ns v xs 6 p 0 least most (sizeAt ns p * tm) w h hm (by omega) (by omega)
  by_cases he : most = -1
  · subst he
    by_cases hl : least < 1
    · have e : timesS least (-1) = 1 := by unfold timesS; rw [if_pos rfl, if_pos hl]
      have hb := bd 1 (by omega) (by omega)
      have core := core 1 e
      clear e bd
      rw [Int.mul_one] at core
      go_enter Try.func149, Try.ntmps149
      go_wp2_with fail
      refine (size_any b p t s ns v xs _ h hp hm).mono ?_
      rintro e w1 ⟨rfl, rfl⟩
      go_wp2_with fail
      refine core.mono ?_
      rintro e w1 ⟨rfl, hs, hb⟩
      go_wp2
      go_ret
      exact ⟨rfl, hs, hb⟩
    · have e : timesS least (-1) = least := by unfold timesS; rw [if_pos rfl, if_neg hl]
      have hb := bd least (by omega) (by omega)
      have core := core _ e
      clear e bd
      go_enter Try.func149, Try.ntmps149
      go_wp2_with fail
      refine (size_any b p t s ns v xs _ h hp hm).mono ?_
      rintro e w1 ⟨rfl, rfl⟩
      go_wp2_with fail
      refine core.mono ?_
      rintro e w1 ⟨rfl, hs, hb⟩
      go_wp2
      go_ret
      exact ⟨rfl, hs, hb⟩
  · have hb0 : (most == -1) = false := by simpa using he
    by_cases hl : most < 1
    · have e : timesS least most = 1 := by unfold timesS; rw [if_neg he, if_pos hl]
      have hb := bd 1 (by omega) (by omega)
      have core := core 1 e
      clear e bd
      rw [Int.mul_one] at core
      go_enter Try.func149, Try.ntmps149
      go_wp2_with fail
      refine (size_any b p t s ns v xs _ h hp hm).mono ?_
      rintro e w1 ⟨rfl, rfl⟩
      go_wp2_with fail
      refine core.mono ?_
      rintro e w1 ⟨rfl, hs, hb⟩
      go_wp2
      go_ret
      exact ⟨rfl, hs, hb⟩
    · have e : timesS least most = most := by unfold timesS; rw [if_neg he, if_neg hl]
      have hb := bd most (by omega) (by omega)
      have core := core _ e
      clear e bd
      go_enter Try.func149, Try.ntmps149
      go_wp2_with fail
      refine (size_any b p t s ns v xs _ h hp hm).mono ?_
      rintro e w1 ⟨rfl, rfl⟩
      go_wp2_with fail
      refine core.mono ?_
      rintro e w1 ⟨rfl, hs, hb⟩
      go_wp2
      go_ret
      exact ⟨rfl, hs, hb⟩

end Go.Proofs.Ytgifhgnccmnbiaa
