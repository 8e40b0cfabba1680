/- The reader of patterns: an atom, a group's pattern being known. -/
import Derived.Test.YtgifhgnccmnbiaaG02
import Derived.Test.YtgifhgnccmnbiaaG01
set_option linter.unusedVariables false
set_option linter.unusedSimpArgs false
namespace Go.Proofs.Ytgifhgnccmnbiaa
open Go.RowKit Go.IntWalk

/-- What a call of the reader's leaves: 'tag' says which; k is 2 where it goes on by a byte at least. -/
structure Out (t : ByteArray) (tag b : Nat) (w w' : World) (st : PS) (k : Nat) (r : Nat × PS) : Prop where
  ev : Ev t tag 0 st r
  ns : NS w' b t r.2
  bel : Below b w w'
  idx : r.1 < r.2.2.length
  grow : st.2.length < r.2.2.length
  ge : st.1.1 ≤ r.2.1.1
  cnt : r.2.2.length + 2 * st.1.1 + k ≤ st.2.length + 2 * r.2.1.1 + 1

theorem out_add {t : ByteArray} {b : Nat} {w w' : World} {s s' : RS} {ns : List AN} {n : AN} (ev : Ev t 3 0 (s, ns) (addS n (s', ns))) (h : NS w' b t (addS n (s', ns)).2) (hb : Below b w w') (hs : s.1 < s'.1) :
    Out t 3 b w w' (s, ns) 2 (addS n (s', ns)) :=
  ⟨ev, h, hb, by simp [addS], by simp [addS], by simp [addS]; omega, by simp [addS]; omega⟩

/-- The pattern's contract, where fewer than m bytes are left. -/
def PatC (t : ByteArray) (m : Nat) : Prop :=
  ∀ (b : Nat) (s : RS) (ns : List AN) (v : Value) (xs : List IV) (w : World), t.size - s.1 < m → NV w b t s ns v xs → ns.length ≤ 500 + 2 * s.1 →
    Calls Try.prog 60 #[.pointer (some ⟨b, 0, none⟩)] w fun e w' => ∃ r : Nat × PS, e = .returned (.int .i64 (r.1 : Int)) ∧ Out t 0 b w w' (s, ns) 0 r

def AtomC (t : ByteArray) (b : Nat) (s : RS) (ns : List AN) (w : World) : Prop :=
  Calls Try.prog 146 #[.pointer (some ⟨b, 0, none⟩)] w fun e w' => ∃ r : Nat × PS, e = .returned (.int .i64 (r.1 : Int)) ∧ Out t 3 b w w' (s, ns) 2 r

section
variable {t : ByteArray} {b : Nat} {s : RS} {ns : List AN} {v : Value} {xs : List IV} {w : World}

/-- The front of each atom: the next byte is taken. -/
theorem front (h : NV w b t s ns v xs) (hp : s.1 < t.size) : s.1 < (nextS t s).2.1 ∧ b < w.heap.size := ⟨next_gt hp, h.rd.blk.lt⟩

set_option maxHeartbeats 1000000 in
theorem atom_dot (h : NV w b t s ns v xs) (hm : ns.length ≤ 1000) (hp : s.1 < t.size) (hc : (nextS t s).1 = 46) : AtomC t b s ns w := by
  obtain ⟨hgt, hbw⟩ := front h hp
  have ev : Ev t 3 0 (s, ns) (bytesS 0 255 ((nextS t s).2, ns)) := by
    have e := Ev.plain (t := t) (st := (s, ns)) (by rw [hc]; decide) (by rw [hc]; decide)
    simp only [hc, plainS] at e
    exact e
  unfold AtomC
  go_enter Try.func146, Try.ntmps146
  go_wp2_with fail
  refine (next_any b t s v _ h.rd).mono ?_
  rintro e w1 ⟨rfl, h1, k1⟩
  have n1 := h.scan h1 k1
  have b1 : Below b w w1 := k1.below (by omega) (by simp)
  go_wp2_with fail
  refine (bytes_any b 0 255 t _ ns v xs _ n1 hm).mono ?_
  rintro e w2 ⟨rfl, h2, b2⟩
  go_wp2
  go_ret
  exact ⟨_, rfl, out_add ev h2 (b1.trans b2) hgt⟩

set_option maxHeartbeats 1000000 in
theorem atom_begin (h : NV w b t s ns v xs) (hm : ns.length ≤ 1000) (hp : s.1 < t.size) (hc : (nextS t s).1 = 94) : AtomC t b s ns w := by
  obtain ⟨hgt, hbw⟩ := front h hp
  have ev : Ev t 3 0 (s, ns) (addS { kind := 2, size := 1 } ((nextS t s).2, ns)) := by
    have e := Ev.plain (t := t) (st := (s, ns)) (by rw [hc]; decide) (by rw [hc]; decide)
    simp only [hc, plainS] at e
    exact e
  unfold AtomC
  go_enter Try.func146, Try.ntmps146
  go_wp2_with fail
  refine (next_any b t s v _ h.rd).mono ?_
  rintro e w1 ⟨rfl, h1, k1⟩
  have n1 := h.scan h1 k1
  have b1 : Below b w w1 := k1.below (by omega) (by simp)
  go_wp2_with fail
  refine (add_plain b t _ ns v xs 2 0 0 0 0 1 _ n1 hm (by omega) (by omega)).mono ?_
  rintro e w2 ⟨rfl, h2, b2⟩
  go_wp2
  go_ret
  exact ⟨_, rfl, out_add ev h2 (b1.trans b2) hgt⟩

set_option maxHeartbeats 1000000 in
theorem atom_end (h : NV w b t s ns v xs) (hm : ns.length ≤ 1000) (hp : s.1 < t.size) (hc : (nextS t s).1 = 36) : AtomC t b s ns w := by
  obtain ⟨hgt, hbw⟩ := front h hp
  have ev : Ev t 3 0 (s, ns) (addS { kind := 3, size := 1 } ((nextS t s).2, ns)) := by
    have e := Ev.plain (t := t) (st := (s, ns)) (by rw [hc]; decide) (by rw [hc]; decide)
    simp only [hc, plainS] at e
    exact e
  unfold AtomC
  go_enter Try.func146, Try.ntmps146
  go_wp2_with fail
  refine (next_any b t s v _ h.rd).mono ?_
  rintro e w1 ⟨rfl, h1, k1⟩
  have n1 := h.scan h1 k1
  have b1 : Below b w w1 := k1.below (by omega) (by simp)
  go_wp2_with fail
  refine (add_plain b t _ ns v xs 3 0 0 0 0 1 _ n1 hm (by omega) (by omega)).mono ?_
  rintro e w2 ⟨rfl, h2, b2⟩
  go_wp2
  go_ret
  exact ⟨_, rfl, out_add ev h2 (b1.trans b2) hgt⟩

set_option maxHeartbeats 1000000 in
theorem atom_esc (h : NV w b t s ns v xs) (hm : ns.length ≤ 1000) (hp : s.1 < t.size) (hc : (nextS t s).1 = 92) : AtomC t b s ns w := by
  obtain ⟨hgt, hbw⟩ := front h hp
  have hgt2 := next_ge (t := t) (s := (nextS t s).2) (fits_next (Nat.le_of_lt hp))
  have ev : Ev t 3 0 (s, ns) (bytesS (nextS t (nextS t s).2).1 (nextS t (nextS t s).2).1 ((nextS t (nextS t s).2).2, ns)) := by
    have e := Ev.plain (t := t) (st := (s, ns)) (by rw [hc]; decide) (by rw [hc]; decide)
    simp only [hc, plainS] at e
    exact e
  unfold AtomC
  go_enter Try.func146, Try.ntmps146
  go_wp2_with fail
  refine (next_any b t s v _ h.rd).mono ?_
  rintro e w1 ⟨rfl, h1, k1⟩
  have n1 := h.scan h1 k1
  have b1 : Below b w w1 := k1.below (by omega) (by simp)
  go_wp2_with fail
  refine (next_any b t _ v _ h1).mono ?_
  rintro e w2 ⟨rfl, h2, k2⟩
  have n2 := n1.scan h2 k2
  have b2 : Below b w w2 := b1.trans (k2.below (by have := h1.blk.lt; omega) (by simp))
  go_wp2_with fail
  refine (bytes_any b _ _ t _ ns v xs _ n2 hm).mono ?_
  rintro e w3 ⟨rfl, h3, b3⟩
  go_wp2
  go_ret
  exact ⟨_, rfl, out_add ev h3 (b2.trans b3) (by omega)⟩

set_option maxHeartbeats 1000000 in
theorem atom_list (h : NV w b t s ns v xs) (hm : ns.length ≤ 1000) (hp : s.1 < t.size) (hc : (nextS t s).1 = 91) : AtomC t b s ns w := by
  obtain ⟨hgt, hbw⟩ := front h hp
  have ev : Ev t 3 0 (s, ns) (listS t ((nextS t s).2, ns)) := Ev.list (st := (s, ns)) hc
  unfold AtomC
  go_enter Try.func146, Try.ntmps146
  go_wp2_with fail
  refine (next_any b t s v _ h.rd).mono ?_
  rintro e w1 ⟨rfl, h1, k1⟩
  have n1 := h.scan h1 k1
  have b1 : Below b w w1 := k1.below (by omega) (by simp)
  go_wp2_with fail
  refine (list_any b t _ ns v xs _ n1 hm).mono ?_
  rintro e w2 ⟨rfl, h2, b2⟩
  go_wp2
  go_ret
  have hl : (nextS t s).2.1 ≤ (if (takeS t 93 (itemsS t (takeS t 94 (nextS t s).2).2 []).2).1 = false ∨ (itemsS t (takeS t 94 (nextS t s).2).2 []).1.length = 0 then failS t else (takeS t 93 (itemsS t (takeS t 94 (nextS t s).2).2 []).2).2).1 := by
    split
    · exact h1.fits
    · exact Nat.le_trans take_ge (Nat.le_trans (itemsS_ge (fits_take (by omega) h1.fits)) take_ge)
  exact ⟨_, rfl, out_add ev h2 (b1.trans b2) (Nat.lt_of_lt_of_le hgt hl)⟩

set_option maxHeartbeats 1000000 in
theorem atom_bad (c : Int) (h : NV w b t s ns v xs) (hm : ns.length ≤ 1000) (hp : s.1 < t.size) (hc : (nextS t s).1 = c) (hcc : c = 41 ∨ c = 124 ∨ c = 42 ∨ c = 43 ∨ c = 63 ∨ c = 123) : AtomC t b s ns w := by
  obtain ⟨hgt, hbw⟩ := front h hp
  have ev : Ev t 3 0 (s, ns) (bytesS c c (failS t, ns)) := by
    have e := Ev.plain (t := t) (st := (s, ns)) (by simp only [hc]; omega) (by simp only [hc]; omega)
    simp only [hc, plainS] at e
    rw [if_neg (by omega), if_neg (by omega), if_neg (by omega), if_neg (by omega), if_pos hcc] at e
    exact e
  unfold AtomC
  rcases hcc with rfl | rfl | rfl | rfl | rfl | rfl
  all_goals
    go_enter Try.func146, Try.ntmps146
    go_wp2_with fail
    refine (next_any b t s v _ h.rd).mono ?_
    rintro e w1 ⟨rfl, h1, k1⟩
    have n1 := h.scan h1 k1
    have b1 : Below b w w1 := k1.below (by omega) (by simp)
    go_wp2_with fail
    refine (fail_any b t _ v _ h1).mono ?_
    rintro e w2 ⟨rfl, h2, k2⟩
    have n2 := n1.scan h2 k2
    have b2 : Below b w w2 := b1.trans (k2.below (by have := h1.blk.lt; omega) (by simp))
    go_wp2_with fail
    refine (bytes_any b _ _ t _ ns v xs _ n2 hm).mono ?_
    rintro e w3 ⟨rfl, h3, b3⟩
    go_wp2
    go_ret
    exact ⟨_, rfl, out_add ev h3 (b2.trans b3) hp⟩

set_option maxHeartbeats 1000000 in
theorem atom_byte (h : NV w b t s ns v xs) (hm : ns.length ≤ 1000) (hp : s.1 < t.size) (c : Int) (hc : (nextS t s).1 = c)
    (n1 : c ≠ 40) (n2 : c ≠ 91) (n3 : c ≠ 46) (n4 : c ≠ 94) (n5 : c ≠ 36) (n6 : c ≠ 92) (n7 : c ≠ 41) (n8 : c ≠ 124) (n9 : c ≠ 42) (n10 : c ≠ 43) (n11 : c ≠ 63) (n12 : c ≠ 123) : AtomC t b s ns w := by
  obtain ⟨hgt, hbw⟩ := front h hp
  have ev : Ev t 3 0 (s, ns) (bytesS c c ((nextS t s).2, ns)) := by
    have e := Ev.plain (t := t) (st := (s, ns)) (by simp only [hc]; omega) (by simp only [hc]; omega)
    simp only [hc, plainS] at e
    rw [if_neg n3, if_neg n4, if_neg n5, if_neg n6, if_neg (by omega)] at e
    exact e
  have m1 := beq_eq_false_iff_ne.2 n1
  have m2 := beq_eq_false_iff_ne.2 n2
  have m3 := beq_eq_false_iff_ne.2 n3
  have m4 := beq_eq_false_iff_ne.2 n4
  have m5 := beq_eq_false_iff_ne.2 n5
  have m6 := beq_eq_false_iff_ne.2 n6
  have m7 := beq_eq_false_iff_ne.2 n7
  have m8 := beq_eq_false_iff_ne.2 n8
  have m9 := beq_eq_false_iff_ne.2 n9
  have m10 := beq_eq_false_iff_ne.2 n10
  have m11 := beq_eq_false_iff_ne.2 n11
  have m12 := beq_eq_false_iff_ne.2 n12
  clear n1 n2 n3 n4 n5 n6 n7 n8 n9 n10 n11 n12
  unfold AtomC
  go_enter Try.func146, Try.ntmps146
  go_wp2_with fail
  refine (next_any b t s v _ h.rd).mono ?_
  rw [hc]
  rintro e w1 ⟨rfl, h1, k1⟩
  have n1 := h.scan h1 k1
  have b1 : Below b w w1 := k1.below (by omega) (by simp)
  go_wp2_with fail
  refine (bytes_any b c c t _ ns v xs _ n1 hm).mono ?_
  rintro e w2 ⟨rfl, h2, b2⟩
  go_wp2
  go_ret
  exact ⟨_, rfl, out_add ev h2 (b1.trans b2) hgt⟩

end

end Go.Proofs.Ytgifhgnccmnbiaa

set_option linter.unusedVariables false
set_option linter.unusedSimpArgs false
namespace Go.Proofs.Ytgifhgnccmnbiaa
open Go.RowKit Go.IntWalk

theorem close_true {t : ByteArray} {r : Nat × PS} (h : (takeS t 41 r.2.1).1 = true) : closeS t r = (r.1, ((takeS t 41 r.2.1).2, r.2.2)) := by unfold closeS; rw [if_pos h]
theorem close_false {t : ByteArray} {r : Nat × PS} (h : (takeS t 41 r.2.1).1 = false) : closeS t r = (r.1, (failS t, r.2.2)) := by unfold closeS; rw [if_neg (by rw [h]; decide)]

/-- In the midst of a loop: 'tag0' is what is read, 'tag' what may follow. -/
structure Mid (t : ByteArray) (tag0 tag b : Nat) (w w' : World) (st : PS) (k : Nat) (r : Nat × PS) : Prop where
  ev : ∀ r', Ev t tag r.1 r.2 r' → Ev t tag0 0 st r'
  ns : NS w' b t r.2
  bel : Below b w w'
  idx : r.1 < r.2.2.length
  grow : st.2.length < r.2.2.length
  ge : st.1.1 ≤ r.2.1.1
  cnt : r.2.2.length + 2 * st.1.1 + k ≤ st.2.length + 2 * r.2.1.1 + 1
theorem Mid.out {t : ByteArray} {tag0 tag b : Nat} {w w' : World} {st : PS} {k : Nat} {r : Nat × PS} (h : Mid t tag0 tag b w w' st k r) (e : Ev t tag r.1 r.2 r) : Out t tag0 b w w' st k r :=
  ⟨h.ev r e, h.ns, h.bel, h.idx, h.grow, h.ge, h.cnt⟩
theorem Out.mid {t : ByteArray} {tag1 tag0 tag b : Nat} {w w' : World} {st : PS} {k : Nat} {r : Nat × PS} (h : Out t tag1 b w w' st k r) (e : ∀ r', Ev t tag r.1 r.2 r' → Ev t tag0 0 st r') : Mid t tag0 tag b w w' st k r :=
  ⟨e, h.ns, h.bel, h.idx, h.grow, h.ge, h.cnt⟩

/-- Where the reader stands, read off its cell: a loop's measure. -/
def atOf (w : World) (b : Nat) : Nat := match w.cell? ⟨b, 1, none⟩ with | some (.int _ n) => n.toNat | _ => 0
theorem atOf_eq {w : World} {b : Nat} {t : ByteArray} {s : RS} {v : Value} (h : RD w b t s v) : atOf w b = s.1 := by unfold atOf; rw [h.c1]; simp

section
variable {t : ByteArray} {b m : Nat} {s : RS} {ns : List AN} {v : Value} {xs : List IV} {w : World}

set_option maxHeartbeats 1000000 in
theorem group_any (H : PatC t m) (h : NV w b t s ns v xs) (hp : t.size - s.1 < m) (hm : ns.length ≤ 500 + 2 * s.1) :
    Calls Try.prog 157 #[.pointer (some ⟨b, 0, none⟩)] w fun e w' => ∃ r : Nat × PS, e = .returned (.int .i64 (r.1 : Int)) ∧ Ev t 0 0 (s, ns) r ∧ NS w' b t (closeS t r).2 ∧ Below b w w' ∧
      r.1 < r.2.2.length ∧ ns.length < r.2.2.length ∧ s.1 ≤ (closeS t r).2.1.1 ∧ r.2.2.length + 2 * s.1 ≤ ns.length + 2 * (closeS t r).2.1.1 + 1 := by
  go_enter Try.func157, Try.ntmps157
  go_wp2_with fail
  refine (H b s ns v xs _ hp h hm).mono ?_
  rintro e w1 ⟨r, rfl, o⟩
  obtain ⟨v1, xs1, n1⟩ := o.ns
  have hge := o.ge
  have hcnt := o.cnt
  simp only [] at hge hcnt
  by_cases hc : (takeS t 41 r.2.1).1 = true
  · have hcl : Hid (_ = _) := close_true hc
    have hg := take_gt hc
    go_wp2_with fail
    refine (take_any b 41 t _ v1 _ n1.rd (by omega) (by omega)).mono ?_
    rintro e w2 ⟨rfl, h2, k2⟩
    go_wp2
    go_ret
    refine ⟨r, rfl, o.ev, ?_, o.bel.trans (k2.below (by have := n1.rd.blk.lt; omega) (by simp)), o.idx, o.grow, ?_, ?_⟩
    · rw [hcl.out]; exact ⟨v1, xs1, n1.scan h2 k2⟩
    · rw [hcl.out]; simp only []; omega
    · rw [hcl.out]; simp only []; omega
  · have hc : (takeS t 41 r.2.1).1 = false := by simpa using hc
    have hcl : Hid (_ = _) := close_false hc
    have hfit := n1.rd.fits
    simp only [Fits] at hfit
    go_wp2_with fail
    refine (take_any b 41 t _ v1 _ n1.rd (by omega) (by omega)).mono ?_
    rintro e w2 ⟨rfl, h2, k2⟩
    go_wp2_with fail
    refine (fail_any b t _ v1 _ h2).mono ?_
    rintro e w3 ⟨rfl, h3, k3⟩
    go_wp2
    go_ret
    refine ⟨r, rfl, o.ev, ?_, o.bel.trans ((k2.trans k3).below (by have := n1.rd.blk.lt; omega) (by simp)), o.idx, o.grow, ?_, ?_⟩
    · rw [hcl.out]; exact ⟨v1, xs1, (n1.scan h2 k2).scan h3 k3⟩
    · rw [hcl.out]; simp only [failS]; omega
    · rw [hcl.out]; simp only [failS]; omega

set_option maxHeartbeats 1000000 in
theorem atom_group (H : PatC t m) (h : NV w b t s ns v xs) (hm : ns.length ≤ 500 + 2 * s.1) (hp : s.1 < t.size) (hpm : t.size - s.1 ≤ m) (hc : (nextS t s).1 = 40) : AtomC t b s ns w := by
  obtain ⟨hgt, hbw⟩ := front h hp
  have ev := fun r => Ev.group (t := t) (st := (s, ns)) (r1 := r) hc
  unfold AtomC
  go_enter Try.func146, Try.ntmps146
  go_wp2_with fail
  refine (next_any b t s v _ h.rd).mono ?_
  rintro e w1 ⟨rfl, h1, k1⟩
  have n1 := h.scan h1 k1
  have b1 : Below b w w1 := k1.below (by omega) (by simp)
  go_wp2_with fail
  refine (group_any H n1 (by omega) (by omega)).mono ?_
  rintro e w2 ⟨r, rfl, h2, h3, h4, h5, h6, h7, h8⟩
  go_wp2
  go_ret
  exact ⟨closeS t r, rfl, ev r h2, h3, b1.trans h4, h5, h6, by simp only []; omega, by simp only [closeS] at h8 ⊢; omega⟩

theorem atom_any (H : PatC t m) (h : NV w b t s ns v xs) (hm : ns.length ≤ 500 + 2 * s.1) (hp : s.1 < t.size) (hpm : t.size - s.1 ≤ m) : AtomC t b s ns w := by
  have hsm := h.rd.small
  by_cases c1 : (nextS t s).1 = 40
  · exact atom_group H h hm hp hpm c1
  by_cases c2 : (nextS t s).1 = 91
  · exact atom_list h (by omega) hp c2
  by_cases c3 : (nextS t s).1 = 46
  · exact atom_dot h (by omega) hp c3
  by_cases c4 : (nextS t s).1 = 94
  · exact atom_begin h (by omega) hp c4
  by_cases c5 : (nextS t s).1 = 36
  · exact atom_end h (by omega) hp c5
  by_cases c6 : (nextS t s).1 = 92
  · exact atom_esc h (by omega) hp c6
  by_cases c7 : (nextS t s).1 = 41 ∨ (nextS t s).1 = 124 ∨ (nextS t s).1 = 42 ∨ (nextS t s).1 = 43 ∨ (nextS t s).1 = 63 ∨ (nextS t s).1 = 123
  · exact atom_bad _ h (by omega) hp rfl c7
  · exact atom_byte h (by omega) hp _ rfl c1 c2 c3 c4 c5 c6 (by omega) (by omega) (by omega) (by omega) (by omega) (by omega)

set_option maxHeartbeats 2000000 in
theorem piece_any (H : PatC t m) (h : NV w b t s ns v xs) (hm : ns.length ≤ 500 + 2 * s.1) (hp : s.1 < t.size) (hpm : t.size - s.1 ≤ m) :
    Calls Try.prog 126 #[.pointer (some ⟨b, 0, none⟩)] w fun e w' => ∃ r : Nat × PS, e = .returned (.int .i64 (r.1 : Int)) ∧ Out t 2 b w w' (s, ns) 2 r := by
  have ha := atom_any H h hm hp hpm
  unfold AtomC at ha
  have hsm : Hid (t.size ≤ 40) := h.rd.small
  have ha : Hid (Calls _ _ _ _ _) := ha
  go_enter Try.func126, Try.ntmps126
  go_wp2_with fail
  refine (ha.out).mono ?_
  rintro e w1 ⟨r1, rfl, o1⟩
  clear ha
  go_wp2_with fail
  go_loopw [3] (fun it wr => ∃ r : Nat × PS, it = .int .i64 (r.1 : Int) ∧ Mid t 2 6 b w wr (s, ns) 2 r) (fun _ wr => t.size - atOf wr b)
  case atStart => exact ⟨r1, rfl, o1.mid (fun r' e => Ev.piece o1.ev e)⟩
  case round =>
    obtain ⟨r, rfl, o⟩ := hrel
    obtain ⟨v2, xs2, n2⟩ := o.ns
    have hcnt := o.cnt
    have hidx := o.idx
    have hat := atOf_eq n2.rd
    have hfit := n2.rd.fits
    simp only [Fits] at hcnt hfit
    have hat : Hid (_ = _) := hat
    by_cases hq : repS t r.2.1 = true
    · have hlt := repS_lt hq
      have hgt := repeat_gt hlt
      obtain ⟨l0, l9, m0, m9⟩ := repeat_bd t r.2.1
      have hev := fun r' e => o.ev r' (Ev.rep (r := r') hq e)
      go_wp2_with fail
      refine (atRep_any b t _ v2 _ n2.rd).mono ?_
      rintro e w2 ⟨rfl, rfl⟩
      go_wp2_with fail
      refine (repeat_any b t _ v2 _ n2.rd).mono ?_
      rintro e w3 ⟨rfl, h3, k3⟩
      have n3 := n2.scan h3 k3
      have b3 := o.bel.trans (k3.below (by have := n2.rd.blk.lt; omega) (by simp))
      go_wp2_with fail
      refine (again_any b r.1 _ _ t _ _ v2 xs2 _ n3 hidx (by have := hsm.out; omega) l0 l9 m0 m9).mono ?_
      rintro e w4 ⟨rfl, h4, b4⟩
      have hat4 : atOf w4 b = (repeatS t r.2.1).2.1 := by obtain ⟨v4, xs4, n4⟩ := h4; exact atOf_eq n4.rd
      have hg := o.grow
      have hge := o.ge
      have hat4 : Hid (_ = _) := hat4
      go_wp2
      try simp only [] at hg hge
      refine ⟨⟨againS r.1 (repeatS t r.2.1).1 ((repeatS t r.2.1).2, r.2.2), rfl, ⟨hev, h4, b3.trans b4, ?_, ?_, ?_, ?_⟩⟩, ?_⟩
      · simp [againS, addS]
      · simp [againS, addS]; omega
      · simp [againS, addS]; omega
      · simp [againS, addS]; omega
      · rw [hat.out, hat4.out]; omega
    · have hq : repS t r.2.1 = false := by simpa using hq
      have hev := o.out (Ev.repEnd hq)
      go_wp2_with fail
      refine (atRep_any b t _ v2 _ n2.rd).mono ?_
      rintro e w2 ⟨rfl, rfl⟩
      go_wp2
      go_ret
      exact ⟨r, rfl, hev⟩

set_option maxHeartbeats 2000000 in
theorem branch_any (H : PatC t m) (h : NV w b t s ns v xs) (hm : ns.length ≤ 500 + 2 * s.1) (hpm : t.size - s.1 ≤ m) :
    Calls Try.prog 88 #[.pointer (some ⟨b, 0, none⟩)] w fun e w' => ∃ r : Nat × PS, e = .returned (.int .i64 (r.1 : Int)) ∧ Out t 1 b w w' (s, ns) 0 r := by
  have hsm : Hid (t.size ≤ 40) := h.rd.small
  have hb := h.rd.blk.lt
  have hfit := h.rd.fits
  simp only [Fits] at hfit
  by_cases he : endS t s = true
  · have ev := Ev.empty (t := t) (st := (s, ns)) he
    go_enter Try.func88, Try.ntmps88
    go_wp2_with fail
    refine (atEnd_any b t _ v _ h.rd).mono ?_
    rintro e w1 ⟨rfl, rfl⟩
    go_wp2_with fail
    refine (add_plain b t _ ns v xs 0 0 0 0 0 1 _ h (by have := hsm.out; omega) (by omega) (by omega)).mono ?_
    rintro e w1 ⟨rfl, h1, b1⟩
    go_wp2
    go_ret
    exact ⟨_, rfl, ev, h1, b1, by simp [addS], by simp [addS], by simp [addS], by simp [addS]; omega⟩
  have he : endS t s = false := by simpa using he
  have hpc := piece_any H h hm (endS_lt he) hpm
  have hpc : Hid (Calls _ _ _ _ _) := hpc
  have ev0 := fun r1 r' (h1 : Ev t 2 0 (s, ns) r1) h2 => Ev.branch (t := t) (st := (s, ns)) (r := r') he h1 h2
  go_enter Try.func88, Try.ntmps88
  go_wp2_with fail
  refine (atEnd_any b t _ v _ h.rd).mono ?_
  rintro e w1 ⟨rfl, rfl⟩
  go_wp2_with fail
  refine (hpc.out).mono ?_
  rintro e w2 ⟨r1, rfl, o1⟩
  clear hpc h hb he
  go_wp2_with fail
  go_loopw [3] (fun it wr => ∃ r : Nat × PS, it = .int .i64 (r.1 : Int) ∧ Mid t 1 5 b w1 wr (s, ns) 2 r) (fun _ wr => t.size - atOf wr b)
  case atStart => exact ⟨r1, rfl, o1.mid (fun r' e => ev0 r1 r' o1.ev e)⟩
  case round =>
    obtain ⟨r, rfl, o⟩ := hrel
    obtain ⟨v2, xs2, n2⟩ := o.ns
    have hcnt := o.cnt
    have hidx := o.idx
    have hge := o.ge
    have hg := o.grow
    have hat : Hid (_ = _) := atOf_eq n2.rd
    have hfit := n2.rd.fits
    simp only [Fits] at hcnt hfit hge hg
    by_cases hq : endS t r.2.1 = true
    · have hev := o.out (Ev.andEnd hq)
      go_wp2_with fail
      refine (atEnd_any b t _ v2 _ n2.rd).mono ?_
      rintro e w3 ⟨rfl, rfl⟩
      go_wp2
      go_ret
      exact ⟨r, rfl, hev.ev, hev.ns, hev.bel, hev.idx, hev.grow, hev.ge, by have := hev.cnt; omega⟩
    · have hq : endS t r.2.1 = false := by simpa using hq
      have hlt := endS_lt hq
      have hpc : Hid (Calls _ _ _ _ _) := piece_any H n2 (by have := hsm.out; omega) hlt (by omega)
      have hev := fun r1 (h1 : Ev t 2 0 r.2 r1) r' e => o.ev r' (Ev.and (r := r') hq h1 e)
      go_wp2_with fail
      refine (atEnd_any b t _ v2 _ n2.rd).mono ?_
      rintro e w3 ⟨rfl, rfl⟩
      go_wp2_with fail
      refine (hpc.out).mono ?_
      rintro e w4 ⟨r4, rfl, o4⟩
      obtain ⟨v4, xs4, n4⟩ := o4.ns
      have hcnt4 := o4.cnt
      have hidx4 := o4.idx
      have hg4 := o4.grow
      have hge4 := o4.ge
      have hfit4 := n4.rd.fits
      simp only [Fits] at hcnt4 hg4 hge4 hfit4
      clear hpc
      go_wp2_with fail
      refine (join_any b r.1 r4.1 4 t _ _ v4 xs4 _ n4 (by omega) hidx4 (by have := hsm.out; omega)).mono ?_
      rintro e w5 ⟨rfl, h5, b5⟩
      have hat5 : atOf w5 b = r4.2.1.1 := by obtain ⟨v5, xs5, n5⟩ := h5; exact atOf_eq n5.rd
      have hat5 : Hid (_ = _) := hat5
      go_wp2
      refine ⟨⟨joinS 4 r.1 r4.1 r4.2, rfl, ⟨hev r4 o4.ev, h5, (o.bel.trans o4.bel).trans b5, ?_, ?_, ?_, ?_⟩⟩, ?_⟩
      · simp [joinS, addS]
      · simp [joinS, addS]; omega
      · simp [joinS, addS]; omega
      · simp [joinS, addS]; omega
      · rw [hat.out, hat5.out]; omega

set_option maxHeartbeats 2000000 in
theorem pattern_step (H : PatC t m) : PatC t (m + 1) := by
  intro b s ns v xs w hpm h hm
  have hsm : Hid (t.size ≤ 40) := h.rd.small
  have hfit := h.rd.fits
  simp only [Fits] at hfit
  have hbc : Hid (Calls _ _ _ _ _) := branch_any H h hm (by omega)
  go_enter Try.func60, Try.ntmps60
  go_wp2_with fail
  refine (hbc.out).mono ?_
  rintro e w1 ⟨r1, rfl, o1⟩
  clear hbc
  go_wp2_with fail
  go_loopw [3] (fun it wr => ∃ r : Nat × PS, it = .int .i64 (r.1 : Int) ∧ Mid t 0 4 b w wr (s, ns) 0 r) (fun _ wr => t.size - atOf wr b)
  case atStart => exact ⟨r1, rfl, o1.mid (fun r' e => Ev.pattern o1.ev e)⟩
  case round =>
    obtain ⟨r, rfl, o⟩ := hrel
    obtain ⟨v2, xs2, n2⟩ := o.ns
    have hcnt := o.cnt
    have hidx := o.idx
    have hge := o.ge
    have hg := o.grow
    have hat : Hid (_ = _) := atOf_eq n2.rd
    have hfit := n2.rd.fits
    simp only [Fits] at hcnt hfit hge hg
    by_cases hq : (takeS t 124 r.2.1).1 = true
    · have hgt := take_gt hq
      have hev := fun r1 h1 r' e => o.ev r' (Ev.or (r := r') (r1 := r1) hq h1 e)
      go_wp2_with fail
      refine (take_any b 124 t _ v2 _ n2.rd (by omega) (by omega)).mono ?_
      rintro e w3 ⟨rfl, h3, k3⟩
      have n3 := n2.scan h3 k3
      have b3 := o.bel.trans (k3.below (by have := n2.rd.blk.lt; omega) (by simp))
      have hfit3 := n3.rd.fits
      simp only [Fits] at hfit3
      have hbc : Hid (Calls _ _ _ _ _) := branch_any H n3 (by omega) (by omega)
      go_wp2_with fail
      refine (hbc.out).mono ?_
      rintro e w4 ⟨r4, rfl, o4⟩
      obtain ⟨v4, xs4, n4⟩ := o4.ns
      have hcnt4 := o4.cnt
      have hidx4 := o4.idx
      have hg4 := o4.grow
      have hge4 := o4.ge
      have hfit4 := n4.rd.fits
      simp only [Fits] at hcnt4 hg4 hge4 hfit4
      clear hbc
      go_wp2_with fail
      refine (join_any b r.1 r4.1 5 t _ _ v4 xs4 _ n4 (by omega) hidx4 (by have := hsm.out; omega)).mono ?_
      rintro e w5 ⟨rfl, h5, b5⟩
      have hat5 : atOf w5 b = r4.2.1.1 := by obtain ⟨v5, xs5, n5⟩ := h5; exact atOf_eq n5.rd
      have hat5 : Hid (_ = _) := hat5
      go_wp2
      refine ⟨⟨joinS 5 r.1 r4.1 r4.2, rfl, ⟨hev r4 o4.ev, h5, (b3.trans o4.bel).trans b5, ?_, ?_, ?_, ?_⟩⟩, ?_⟩
      · simp [joinS, addS]
      · simp [joinS, addS]; omega
      · simp [joinS, addS]; omega
      · simp [joinS, addS]; omega
      · rw [hat.out, hat5.out]; omega
    · have hq : (takeS t 124 r.2.1).1 = false := by simpa using hq
      have hev := o.out (Ev.orEnd hq)
      have hsame : takeS t 124 r.2.1 = (false, r.2.1) := by
        unfold takeS at hq ⊢
        split at hq
        · cases hq
        · rename_i hc; rw [if_neg hc]
      go_wp2_with fail
      refine (take_any b 124 t _ v2 _ n2.rd (by omega) (by omega)).mono ?_
      rintro e w3 ⟨rfl, h3, k3⟩
      go_wp2
      go_ret
      refine ⟨r, rfl, hev.ev, ?_, hev.bel.trans (k3.below (by have := n2.rd.blk.lt; omega) (by simp)), hev.idx, hev.grow, hev.ge, hev.cnt⟩
      rw [hsame] at h3
      exact ⟨v2, xs2, n2.scan h3 k3⟩

theorem pattern_any (t : ByteArray) : ∀ m, PatC t m
  | 0 => fun _ _ _ _ _ _ h => by omega
  | m + 1 => pattern_step (pattern_any t m)
end

end Go.Proofs.Ytgifhgnccmnbiaa

set_option linter.unusedVariables false
set_option linter.unusedSimpArgs false
namespace Go.Proofs.Ytgifhgnccmnbiaa
open Go.RowKit Go.IntWalk

/-- The text as it begins. -/
def st0 : PS := ((0, false), [])
/-- Not read from its first byte to its last. -/
def BadR (t : ByteArray) (r : Nat × PS) : Prop := r.2.1.2 = true ∨ r.2.1.1 < t.size

def ReadOut (t : ByteArray) (w w' : World) (e : Ending) : Prop :=
  Below w.heap.size w w' ∧ ∃ r : Nat × PS, Ev t 0 0 st0 r ∧ r.1 < r.2.2.length ∧
    ((BadR t r ∧ e = .returned (.tuple #[.agg #[.slice none 0 0, .int .i64 0], .int .i64 2])) ∨
     (¬ BadR t r ∧ 60 < sizeAt r.2.2 r.1 ∧ e = .returned (.tuple #[.agg #[.slice none 0 0, .int .i64 0], .int .i64 3])) ∨
     (¬ BadR t r ∧ sizeAt r.2.2 r.1 ≤ 60 ∧ ∃ b ao n c xs, w.heap.size ≤ b ∧ NV w' b t r.2.1 r.2.2 (.slice ao n c) xs ∧ e = .returned (.tuple #[.agg #[.slice ao n c, .int .i64 (sizeAt r.2.2 r.1)], .int .i64 0])))

theorem NV.start (w : World) (t : ByteArray) (h : t.size ≤ 40) (k : Nat) (hk : k = w.heap.size) : NV (w.alloc (.cells #[.string t, .int .i64 0, .slice none 0 0, .bool false] 103)) k t (0, false) [] (.slice none 0 0) [] := by
  subst hk
  exact ⟨⟨Blk.new _ _ _, Nat.zero_le _, h⟩, World.ownsRow_nil _ _ _ _, rfl, fun i n x hn => by simp at hn, fun n hn => by simp at hn⟩

set_option maxHeartbeats 1000000 in
theorem read_long (t : ByteArray) (w : World) (h : 40 < t.size) (hs : t.size ≤ maxLen) :
    Calls Try.prog 40 #[.string t] w fun e w' => e = .returned (.tuple #[.agg #[.slice none 0 0, .int .i64 0], .int .i64 3]) ∧ Below w.heap.size w w' := by
  unfold maxLen at hs
  go_enter Try.func40, Try.ntmps40
  go_wp2
  refine bodyPost_ret (v := .tuple #[.agg #[.slice none 0 0, .int .i64 0], .int .i64 3]) (by simp [results, Try.results40, go_sem]) rfl ⟨rfl, ?_⟩
  exact (Below.refl _ _).alloc (Nat.le_refl _) _

/-- The result's own block, behind its two stores. -/
theorem res_two {w x : World} {T : TypeId} {c0 c1 : Value} (h : Blk x w.heap.size #[c0, c1] T) (hb : Below w.heap.size w x) (u0 u1 : Value) :
    ((x.setCell ⟨w.heap.size, 0, none⟩ u0).setCell ⟨w.heap.size, 1, none⟩ u1).cell? ⟨w.heap.size, 0, none⟩ = some u0 ∧
    ((x.setCell ⟨w.heap.size, 0, none⟩ u0).setCell ⟨w.heap.size, 1, none⟩ u1).cell? ⟨w.heap.size, 1, none⟩ = some u1 ∧
    Below w.heap.size w ((x.setCell ⟨w.heap.size, 0, none⟩ u0).setCell ⟨w.heap.size, 1, none⟩ u1) := by
  have h2 := (h.set 0 u0).set 1 u1
  refine ⟨by rw [h2.cell]; rfl, by rw [h2.cell]; rfl, (hb.setCell (Nat.le_refl _) _).setCell (Nat.le_refl _) _⟩

theorem NV.other {w : World} {b k : Nat} {t : ByteArray} {s : RS} {ns : List AN} {v : Value} {xs : List IV} (h : NV w b t s ns v xs) (hk : k < b) (j : Nat) (u : Value) : NV (w.setCell ⟨k, j, none⟩ u) b t s ns v xs := by
  have gr : w.grownBy (w.setCell ⟨k, j, none⟩ u) (some k) := ⟨rfl, rfl, rfl, by simp [World.setCell], fun i hi hne => Below.heap_setCell _ _ _ _ (by rintro rfl; exact hne rfl)⟩
  have keep : ∀ {e z m : Nat} {y : Value} {ys : List Value}, w.ownsRow (b + 1) e z y m ys → (w.setCell ⟨k, j, none⟩ u).ownsRow (b + 1) e z y m ys := fun {e z m y ys} hy => by
    refine hy.kept gr ?_
    cases hv : y.ownBlock with
    | none => exact Or.inl rfl
    | some g => refine Or.inr ?_; have := own_ge hy hv; simp; omega
  exact ⟨⟨Blk.other h.rd.blk _ _ (by omega), h.rd.fits, h.rd.small⟩, keep h.row, h.len, fun i n x a c => keep (h.items i n x a c), h.sized⟩

set_option maxHeartbeats 2000000 in
theorem read_any (t : ByteArray) (w : World) (h : t.size ≤ 40) :
    Calls Try.prog 40 #[.string t] w fun e w' => ReadOut t w w' e := by
  have hP : Hid (∀ (w1 : World) (k : Nat) (hk : NV w1 k t (0, false) [] (.slice none 0 0) []), _) := fun w1 k hk => pattern_any t (t.size + 1) k (0, false) [] (.slice none 0 0) [] w1 (by simp only []; omega) hk (by simp)
  have nv := fun o => NV.start (w.alloc o) t h (w.heap.size + 1) (by simp)
  have bz : ∀ o, Blk ((w.alloc (.cells #[.slice none 0 0, .int .i64 0] 57)).alloc o) w.heap.size #[.slice none 0 0, .int .i64 0] 57 := fun o => (Blk.new _ _ _).alloc o
  have bw : ∀ o1 o2, Below w.heap.size w ((w.alloc o1).alloc o2) := fun o1 o2 => ((Below.refl _ _).alloc (Nat.le_refl _) _).alloc (by simp) _
  go_enter Try.func40, Try.ntmps40
  go_wp2_with fail
  refine (hP.out _ _ (nv _)).mono ?_
  rintro e w1 ⟨r, rfl, o⟩
  obtain ⟨v1, xs1, n1⟩ := o.ns
  clear hP nv
  have blw : Below w.heap.size w w1 := (bw _ _).trans (o.bel.mono (by omega))
  have bl1 : Blk w1 w.heap.size #[.slice none 0 0, .int .i64 0] 57 := (o.bel.block w.heap.size (by omega)).trans (bz _)
  have hev := o.ev
  have hidx := o.idx
  have hcnt := o.cnt
  simp only [] at hcnt
  have hfit := n1.rd.fits
  simp only [Fits] at hfit
  clear bz bw o
  have c1 := n1.rd.c1
  by_cases hlt : r.2.1.1 < t.size
  · go_wp2_with fail
    refine (fail_any _ t _ v1 _ n1.rd).mono ?_
    rintro e w2 ⟨rfl, h2, k2⟩
    have d3 := h2.c3
    have bl2 := bl1.kept k2 (by simp)
    have blw2 : Below w.heap.size w w2 := blw.trans (k2.below (by have := n1.rd.blk.lt; omega) (by simp))
    have g0 := bl2.frozen 0
    have g1 := bl2.frozen 1
    have g2 := bl2.cell 0
    have g3 := bl2.cell 1
    obtain ⟨q0, q1, q2⟩ := res_two bl2 blw2 (.slice none 0 0) (.int .i64 0)
    clear bl1 bl2
    simp only [failS] at d3
    go_wp2
    refine bodyPost_ret (v := .tuple #[.agg #[.slice none 0 0, .int .i64 0], .int .i64 2]) (by simp [results, Try.results40, go_sem, q0, q1]) rfl ?_
    exact ⟨q2, r, hev, hidx, Or.inl ⟨Or.inr hlt, rfl⟩⟩
  have c3 := n1.rd.c3
  have g0 := bl1.frozen 0
  have g1 := bl1.frozen 1
  have g2 := bl1.cell 0
  have g3 := bl1.cell 1
  by_cases hbad : r.2.1.2 = true
  · obtain ⟨q0, q1, q2⟩ := res_two bl1 blw (.slice none 0 0) (.int .i64 0)
    clear bl1
    rw [hbad] at c3
    have hbad : Hid (r.2.1.2 = true) := hbad
    go_wp2
    refine bodyPost_ret (v := .tuple #[.agg #[.slice none 0 0, .int .i64 0], .int .i64 2]) (by simp [results, Try.results40, go_sem, q0, q1]) rfl ?_
    exact ⟨q2, r, hev, hidx, Or.inl ⟨Or.inl hbad.out, rfl⟩⟩
  have hnb : Hid (¬ BadR t r) := fun hc => by rcases hc with hc | hc; exact hbad hc; exact hlt hc
  have hbad : r.2.1.2 = false := by simpa using hbad
  rw [hbad] at c3
  clear hbad
  have hbd := sizeAt_bd n1.sized r.1
  have hsz : Hid (r.2.2.length ≤ 1000) := by show _ ≤ _; simp at hcnt; omega
  by_cases hbig : 60 < sizeAt r.2.2 r.1
  · obtain ⟨q0, q1, q2⟩ := res_two bl1 blw (.slice none 0 0) (.int .i64 0)
    clear bl1
    go_wp2_with fail
    refine (size_any _ r.1 t _ _ v1 xs1 _ n1 hidx hsz.out).mono ?_
    rintro e w2 ⟨rfl, rfl⟩
    go_wp2
    refine bodyPost_ret (v := .tuple #[.agg #[.slice none 0 0, .int .i64 0], .int .i64 3]) (by simp [results, Try.results40, go_sem, q0, q1]) rfl ?_
    exact ⟨q2, r, hev, hidx, Or.inr (Or.inl ⟨hnb.out, hbig, rfl⟩)⟩
  · obtain ⟨g, cap, rfl⟩ := own_form n1.row (by omega)
    have c2 := n1.rd.c2
    obtain ⟨q0, q1, q2⟩ := res_two bl1 blw (.slice (some ⟨g, 0, none⟩) r.2.2.length cap) (.int .i64 (sizeAt r.2.2 r.1))
    have n3 := (n1.other (k := w.heap.size) (by omega) 0 (.slice (some ⟨g, 0, none⟩) r.2.2.length cap)).other (k := w.heap.size) (by omega) 1 (.int .i64 (sizeAt r.2.2 r.1))
    clear bl1
    go_wp2_with fail
    refine (size_any _ r.1 t _ _ _ xs1 _ n1 hidx hsz.out).mono ?_
    rintro e w2 ⟨rfl, rfl⟩
    go_wp2
    refine bodyPost_ret (v := .tuple #[.agg #[.slice (some ⟨g, 0, none⟩) r.2.2.length cap, .int .i64 (sizeAt r.2.2 r.1)], .int .i64 0]) (by simp [results, Try.results40, go_sem, q0, q1]) rfl ?_
    exact ⟨q2, r, hev, hidx, Or.inr (Or.inr ⟨hnb.out, by omega, w.heap.size + 1, _, _, _, xs1, by omega, n3, rfl⟩)⟩

set_option maxHeartbeats 1000000 in
theorem check_long (t : ByteArray) (w : World) (h : 40 < t.size) (hs : t.size ≤ maxLen) :
    Calls Try.prog 15 #[.string t] w fun e w' => e = .returned (.tuple #[.int .i64 0, .int .i64 3]) ∧ Below w.heap.size w w' := by
  go_enter Try.func15, Try.ntmps15
  go_wp2_with fail
  refine (read_long t _ h hs).mono ?_
  rintro e w1 ⟨rfl, b1⟩
  go_wp2
  go_ret2
  exact ⟨rfl, b1.alloc b1.size _⟩

/-- What Check comes to. -/
def CheckOut (t : ByteArray) (w w' : World) (e : Ending) : Prop :=
  Below w.heap.size w w' ∧ ∃ r : Nat × PS, Ev t 0 0 st0 r ∧ r.1 < r.2.2.length ∧
    ((BadR t r ∧ e = .returned (.tuple #[.int .i64 0, .int .i64 2])) ∨
     (¬ BadR t r ∧ 60 < sizeAt r.2.2 r.1 ∧ e = .returned (.tuple #[.int .i64 0, .int .i64 3])) ∨
     (¬ BadR t r ∧ sizeAt r.2.2 r.1 ≤ 60 ∧ e = .returned (.tuple #[.int .i64 (sizeAt r.2.2 r.1), .int .i64 0])))

set_option maxHeartbeats 1000000 in
theorem check_any (t : ByteArray) (w : World) (h : t.size ≤ 40) :
    Calls Try.prog 15 #[.string t] w fun e w' => CheckOut t w w' e := by
  go_enter Try.func15, Try.ntmps15
  go_wp2_with fail
  refine (read_any t _ h).mono ?_
  rintro e w1 ⟨b1, r, hev, hidx, ⟨hb, rfl⟩ | ⟨hb, hz, rfl⟩ | ⟨hb, hz, b, ao, n, c, xs, hbb, hn, rfl⟩⟩
  · have hh : Hid (∀ o, CheckOut t w (w1.alloc o) (.returned (.tuple #[.int .i64 0, .int .i64 2]))) := fun o => ⟨b1.alloc b1.size o, r, hev, hidx, Or.inl ⟨hb, rfl⟩⟩
    clear hev hidx hb
    go_wp2
    go_ret2
    exact hh.out _
  · have hh : Hid (∀ o, CheckOut t w (w1.alloc o) (.returned (.tuple #[.int .i64 0, .int .i64 3]))) := fun o => ⟨b1.alloc b1.size o, r, hev, hidx, Or.inr (Or.inl ⟨hb, hz, rfl⟩)⟩
    clear hev hidx hb
    go_wp2
    go_ret2
    exact hh.out _
  · have hh : Hid (∀ o, CheckOut t w (w1.alloc o) (.returned (.tuple #[.int .i64 (sizeAt r.2.2 r.1), .int .i64 0]))) := fun o => ⟨b1.alloc b1.size o, r, hev, hidx, Or.inr (Or.inr ⟨hb, hz, rfl⟩)⟩
    clear hev hidx hb
    go_wp2
    go_ret2
    exact hh.out _

end Go.Proofs.Ytgifhgnccmnbiaa
