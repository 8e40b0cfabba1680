/- The reader of patterns: an atom, a group's pattern being known. -/
import Derived.Test.YtgifhgnccmnbiaaList
import Derived.Test.YtgifhgnccmnbiaaGoPure
set_option linter.unusedVariables false
set_option linter.unusedSimpArgs false
namespace Go.Proofs.Ytgifhgnccmnbiaa
open Go.RowKit Go.IntWalk

/-- What a call of the reader's leaves: 'tag' says which; k is 2 where it goes on by a byte at least. -/
structure Out (t : ByteArray) (tag b : Nat) (w w' : World) (st : PS) (k : Nat) (r : Nat × PS) : Prop where
  ev : Ev t tag 0 st r
  ns : NS w' b t r.2
  bel : Below b w w'
  idx : r.1 < r.2.2.length
  grow : st.2.length < r.2.2.length
  ge : st.1.1 ≤ r.2.1.1
  cnt : r.2.2.length + 2 * st.1.1 + k ≤ st.2.length + 2 * r.2.1.1 + 1

theorem out_add {t : ByteArray} {b : Nat} {w w' : World} {s s' : RS} {ns : List AN} {n : AN} (ev : Ev t 3 0 (s, ns) (addS n (s', ns))) (h : NS w' b t (addS n (s', ns)).2) (hb : Below b w w') (hs : s.1 < s'.1) :
    Out t 3 b w w' (s, ns) 2 (addS n (s', ns)) :=
  ⟨ev, h, hb, by simp [addS], by simp [addS], by simp [addS]; omega, by simp [addS]; omega⟩

/-- The pattern's contract, where fewer than m bytes are left. -/
def PatC (t : ByteArray) (m : Nat) : Prop :=
  ∀ (b : Nat) (s : RS) (ns : List AN) (v : Value) (xs : List IV) (w : World), t.size - s.1 < m → NV w b t s ns v xs → ns.length ≤ 500 + 2 * s.1 →
    Calls Try.prog 60 #[.pointer (some ⟨b, 0, none⟩)] w fun e w' => ∃ r : Nat × PS, e = .returned (.int .i64 (r.1 : Int)) ∧ Out t 0 b w w' (s, ns) 0 r

def AtomC (t : ByteArray) (b : Nat) (s : RS) (ns : List AN) (w : World) : Prop :=
  Calls Try.prog 146 #[.pointer (some ⟨b, 0, none⟩)] w fun e w' => ∃ r : Nat × PS, e = .returned (.int .i64 (r.1 : Int)) ∧ Out t 3 b w w' (s, ns) 2 r

section
variable {t : ByteArray} {b : Nat} {s : RS} {ns : List AN} {v : Value} {xs : List IV} {w : World}

/-- The front of each atom: the next byte is taken. -/
theorem front (h : NV w b t s ns v xs) (hp : s.1 < t.size) : s.1 < (nextS t s).2.1 ∧ b < w.heap.size := ⟨next_gt hp, h.rd.blk.lt⟩

set_option maxHeartbeats 1000000 in
theorem atom_dot (h : NV w b t s ns v xs) (hm : ns.length ≤ 1000) (hp : s.1 < t.size) (hc : (nextS t s).1 = 46) : AtomC t b s ns w := by
  obtain ⟨hgt, hbw⟩ := front h hp
  have ev : Ev t 3 0 (s, ns) (bytesS 0 255 ((nextS t s).2, ns)) := by
    have e := Ev.plain (t := t) (st := (s, ns)) (by rw [hc]; decide) (by rw [hc]; decide)
    simp only [hc, plainS] at e
    exact e
  unfold AtomC
  go_enter Try.func146, Try.ntmps146
  go_wp2_with fail
  refine (next_any b t s v _ h.rd).mono ?_
  rintro e w1 ⟨rfl, h1, k1⟩
  have n1 := h.scan h1 k1
  have b1 : Below b w w1 := k1.below (by omega) (by simp)
  go_wp2_with fail
  refine (bytes_any b 0 255 t _ ns v xs _ n1 hm).mono ?_
  rintro e w2 ⟨rfl, h2, b2⟩
  go_wp2
  go_ret
  exact ⟨_, rfl, out_add ev h2 (b1.trans b2) hgt⟩

set_option maxHeartbeats 1000000 in
theorem atom_begin (h : NV w b t s ns v xs) (hm : ns.length ≤ 1000) (hp : s.1 < t.size) (hc : (nextS t s).1 = 94) : AtomC t b s ns w := by
  obtain ⟨hgt, hbw⟩ := front h hp
  have ev : Ev t 3 0 (s, ns) (addS { kind := 2, size := 1 } ((nextS t s).2, ns)) := by
    have e := Ev.plain (t := t) (st := (s, ns)) (by rw [hc]; decide) (by rw [hc]; decide)
    simp only [hc, plainS] at e
    exact e
  unfold AtomC
  go_enter Try.func146, Try.ntmps146
  go_wp2_with fail
  refine (next_any b t s v _ h.rd).mono ?_
  rintro e w1 ⟨rfl, h1, k1⟩
  have n1 := h.scan h1 k1
  have b1 : Below b w w1 := k1.below (by omega) (by simp)
  go_wp2_with fail
  refine (add_plain b t _ ns v xs 2 0 0 0 0 1 _ n1 hm (by omega) (by omega)).mono ?_
  rintro e w2 ⟨rfl, h2, b2⟩
  go_wp2
  go_ret
  exact ⟨_, rfl, out_add ev h2 (b1.trans b2) hgt⟩

set_option maxHeartbeats 1000000 in
theorem atom_end (h : NV w b t s ns v xs) (hm : ns.length ≤ 1000) (hp : s.1 < t.size) (hc : (nextS t s).1 = 36) : AtomC t b s ns w := by
  obtain ⟨hgt, hbw⟩ := front h hp
  have ev : Ev t 3 0 (s, ns) (addS { kind := 3, size := 1 } ((nextS t s).2, ns)) := by
    have e := Ev.plain (t := t) (st := (s, ns)) (by rw [hc]; decide) (by rw [hc]; decide)
    simp only [hc, plainS] at e
    exact e
  unfold AtomC
  go_enter Try.func146, Try.ntmps146
  go_wp2_with fail
  refine (next_any b t s v _ h.rd).mono ?_
  rintro e w1 ⟨rfl, h1, k1⟩
  have n1 := h.scan h1 k1
  have b1 : Below b w w1 := k1.below (by omega) (by simp)
  go_wp2_with fail
  refine (add_plain b t _ ns v xs 3 0 0 0 0 1 _ n1 hm (by omega) (by omega)).mono ?_
  rintro e w2 ⟨rfl, h2, b2⟩
  go_wp2
  go_ret
  exact ⟨_, rfl, out_add ev h2 (b1.trans b2) hgt⟩

set_option maxHeartbeats 1000000 in
theorem atom_esc (h : NV w b t s ns v xs) (hm : ns.length ≤ 1000) (hp : s.1 < t.size) (hc : (nextS t s).1 = 92) : AtomC t b s ns w := by
  obtain ⟨hgt, hbw⟩ := front h hp
  have hgt2 := next_ge (t := t) (s := (nextS t s).2) (fits_next (Nat.le_of_lt hp))
  have ev : Ev t 3 0 (s, ns) (bytesS (nextS t (nextS t s).2).1 (nextS t (nextS t s).2).1 ((nextS t (nextS t s).2).2, ns)) := by
    have e := Ev.plain (t := t) (st := (s, ns)) (by rw [hc]; decide) (by rw [hc]; decide)
    simp only [hc, plainS] at e
    exact e
  unfold AtomC
  go_enter Try.func146, Try.ntmps146
  go_wp2_with fail
  refine (next_any b t s v _ h.rd).mono ?_
  rintro e w1 ⟨rfl, h1, k1⟩
  have n1 := h.scan h1 k1
  have b1 : Below b w w1 := k1.below (by omega) (by simp)
  go_wp2_with fail
  refine (next_any b t _ v _ h1).mono ?_
  rintro e w2 ⟨rfl, h2, k2⟩
  have n2 := n1.scan h2 k2
  have b2 : Below b w w2 := b1.trans (k2.below (by have := h1.blk.lt; omega) (by simp))
  go_wp2_with fail
  refine (bytes_any b _ _ t _ ns v xs _ n2 hm).mono ?_
  rintro e w3 ⟨rfl, h3, b3⟩
  go_wp2
  go_ret
  exact ⟨_, rfl, out_add ev h3 (b2.trans b3) (by omega)⟩

set_option maxHeartbeats 1000000 in
theorem atom_list (h : NV w b t s ns v xs) (hm : ns.length ≤ 1000) (hp : s.1 < t.size) (hc : (nextS t s).1 = 91) : AtomC t b s ns w := by
  obtain ⟨hgt, hbw⟩ := front h hp
  have ev : Ev t 3 0 (s, ns) (listS t ((nextS t s).2, ns)) := Ev.list (st := (s, ns)) hc
  unfold AtomC
  go_enter Try.func146, Try.ntmps146
  go_wp2_with fail
  refine (next_any b t s v _ h.rd).mono ?_
  rintro e w1 ⟨rfl, h1, k1⟩
  have n1 := h.scan h1 k1
  have b1 : Below b w w1 := k1.below (by omega) (by simp)
  go_wp2_with fail
  refine (list_any b t _ ns v xs _ n1 hm).mono ?_
  rintro e w2 ⟨rfl, h2, b2⟩
  go_wp2
  go_ret
  have hl : (nextS t s).2.1 ≤ (if (takeS t 93 (itemsS t (takeS t 94 (nextS t s).2).2 []).2).1 = false ∨ (itemsS t (takeS t 94 (nextS t s).2).2 []).1.length = 0 then failS t else (takeS t 93 (itemsS t (takeS t 94 (nextS t s).2).2 []).2).2).1 := by
    split
    · exact h1.fits
    · exact Nat.le_trans take_ge (Nat.le_trans (itemsS_ge (fits_take (by omega) h1.fits)) take_ge)
  exact ⟨_, rfl, out_add ev h2 (b1.trans b2) (Nat.lt_of_lt_of_le hgt hl)⟩

set_option maxHeartbeats 1000000 in
theorem atom_bad (c : Int) (h : NV w b t s ns v xs) (hm : ns.length ≤ 1000) (hp : s.1 < t.size) (hc : (nextS t s).1 = c) (hcc : c = 41 ∨ c = 124 ∨ c = 42 ∨ c = 43 ∨ c = 63 ∨ c = 123) : AtomC t b s ns w := by
  obtain ⟨hgt, hbw⟩ := front h hp
  have ev : Ev t 3 0 (s, ns) (bytesS c c (failS t, ns)) := by
    have e := Ev.plain (t := t) (st := (s, ns)) (by simp only [hc]; omega) (by simp only [hc]; omega)
    simp only [hc, plainS] at e
    rw [if_neg (by omega), if_neg (by omega), if_neg (by omega), if_neg (by omega), if_pos hcc] at e
    exact e
  unfold AtomC
  rcases hcc with rfl | rfl | rfl | rfl | rfl | rfl
  all_goals
    go_enter Try.func146, Try.ntmps146
    go_wp2_with fail
    refine (next_any b t s v _ h.rd).mono ?_
    rintro e w1 ⟨rfl, h1, k1⟩
    have n1 := h.scan h1 k1
    have b1 : Below b w w1 := k1.below (by omega) (by simp)
    go_wp2_with fail
    refine (fail_any b t _ v _ h1).mono ?_
    rintro e w2 ⟨rfl, h2, k2⟩
    have n2 := n1.scan h2 k2
    have b2 : Below b w w2 := b1.trans (k2.below (by have := h1.blk.lt; omega) (by simp))
    go_wp2_with fail
    refine (bytes_any b _ _ t _ ns v xs _ n2 hm).mono ?_
    rintro e w3 ⟨rfl, h3, b3⟩
    go_wp2
    go_ret
    exact ⟨_, rfl, out_add ev h3 (b2.trans b3) hp⟩

set_option maxHeartbeats 1000000 in
theorem atom_byte (h : NV w b t s ns v xs) (hm : ns.length ≤ 1000) (hp : s.1 < t.size) (c : Int) (hc : (nextS t s).1 = c)
    (n1 : c ≠ 40) (n2 : c ≠ 91) (n3 : c ≠ 46) (n4 : c ≠ 94) (n5 : c ≠ 36) (n6 : c ≠ 92) (n7 : c ≠ 41) (n8 : c ≠ 124) (n9 : c ≠ 42) (n10 : c ≠ 43) (n11 : c ≠ 63) (n12 : c ≠ 123) : AtomC t b s ns w := by
  obtain ⟨hgt, hbw⟩ := front h hp
  have ev : Ev t 3 0 (s, ns) (bytesS c c ((nextS t s).2, ns)) := by
    have e := Ev.plain (t := t) (st := (s, ns)) (by simp only [hc]; omega) (by simp only [hc]; omega)
    simp only [hc, plainS] at e
    rw [if_neg n3, if_neg n4, if_neg n5, if_neg n6, if_neg (by omega)] at e
    exact e
  have m1 := beq_eq_false_iff_ne.2 n1
  have m2 := beq_eq_false_iff_ne.2 n2
  have m3 := beq_eq_false_iff_ne.2 n3
  have m4 := beq_eq_false_iff_ne.2 n4
  have m5 := beq_eq_false_iff_ne.2 n5
  have m6 := beq_eq_false_iff_ne.2 n6
  have m7 := beq_eq_false_iff_ne.2 n7
  have m8 := beq_eq_false_iff_ne.2 n8
  have m9 := beq_eq_false_iff_ne.2 n9
  have m10 := beq_eq_false_iff_ne.2 n10
  have m11 := beq_eq_false_iff_ne.2 n11
  have m12 := beq_eq_false_iff_ne.2 n12
  clear n1 n2 n3 n4 n5 n6 n7 n8 n9 n10 n11 n12
  unfold AtomC
  go_enter Try.func146, Try.ntmps146
  go_wp2_with fail
  refine (next_any b t s v _ h.rd).mono ?_
  rw [hc]
  rintro e w1 ⟨rfl, h1, k1⟩
  have n1 := h.scan h1 k1
  have b1 : Below b w w1 := k1.below (by omega) (by simp)
  go_wp2_with fail
  refine (bytes_any b c c t _ ns v xs _ n1 hm).mono ?_
  rintro e w2 ⟨rfl, h2, b2⟩
  go_wp2
  go_ret
  exact ⟨_, rfl, out_add ev h2 (b1.trans b2) hgt⟩

end

end Go.Proofs.Ytgifhgnccmnbiaa
