/- The reader of patterns: atom, piece, branch and pattern: the reader whole. -/
import Derived.Test.YtgifhgnccmnbiabGreatDoorG02
set_option linter.unusedVariables false
set_option linter.unusedSimpArgs false
namespace Go.Proofs.YtgifhgnccmnbiabGreatDoor
open Go.RowKit Go.IntWalk

theorem close_true {t : ByteArray} {r : Nat × PS} (h : (takeS t 41 r.2.1).1 = true) : closeS t r = (r.1, ((takeS t 41 r.2.1).2, r.2.2)) := by unfold closeS; rw [if_pos h]
theorem close_false {t : ByteArray} {r : Nat × PS} (h : (takeS t 41 r.2.1).1 = false) : closeS t r = (r.1, (failS t, r.2.2)) := by unfold closeS; rw [if_neg (by rw [h]; decide)]

/-- In the midst of a loop: 'tag0' is what is read, 'tag' what may follow. -/
structure Mid (t : ByteArray) (tag0 tag b : Nat) (w w' : World) (st : PS) (k : Nat) (r : Nat × PS) : Prop where
  ev : ∀ r', Ev t tag r.1 r.2 r' → Ev t tag0 0 st r'
  ns : NS w' b t r.2
  bel : Below b w w'
  idx : r.1 < r.2.2.length
  grow : st.2.length < r.2.2.length
  ge : st.1.1 ≤ r.2.1.1
  cnt : r.2.2.length + 2 * st.1.1 + k ≤ st.2.length + 2 * r.2.1.1 + 1
theorem Mid.out {t : ByteArray} {tag0 tag b : Nat} {w w' : World} {st : PS} {k : Nat} {r : Nat × PS} (h : Mid t tag0 tag b w w' st k r) (e : Ev t tag r.1 r.2 r) : Out t tag0 b w w' st k r :=
  ⟨h.ev r e, h.ns, h.bel, h.idx, h.grow, h.ge, h.cnt⟩
theorem Out.mid {t : ByteArray} {tag1 tag0 tag b : Nat} {w w' : World} {st : PS} {k : Nat} {r : Nat × PS} (h : Out t tag1 b w w' st k r) (e : ∀ r', Ev t tag r.1 r.2 r' → Ev t tag0 0 st r') : Mid t tag0 tag b w w' st k r :=
  ⟨e, h.ns, h.bel, h.idx, h.grow, h.ge, h.cnt⟩

/-- Where the reader stands, read off its cell: a loop's measure. -/
def atOf (w : World) (b : Nat) : Nat := match w.cell? ⟨b, 1, none⟩ with | some (.int _ n) => n.toNat | _ => 0
theorem atOf_eq {w : World} {b : Nat} {t : ByteArray} {s : RS} {v : Value} (h : RD w b t s v) : atOf w b = s.1 := by unfold atOf; rw [h.c1]; simp

section
variable {t : ByteArray} {b m : Nat} {s : RS} {ns : List AN} {v : Value} {xs : List IV} {w : World}

set_option maxHeartbeats 1000000 in
theorem group_any (H : PatC t m) (h : NV w b t s ns v xs) (hp : t.size - s.1 < m) (hm : ns.length ≤ 500 + 2 * s.1) :
    Calls Tryz.prog 212 #[.pointer (some ⟨b, 0, none⟩)] w fun e w' => ∃ r : Nat × PS, e = .returned (.int .i64 (r.1 : Int)) ∧ Ev t 0 0 (s, ns) r ∧ NS w' b t (closeS t r).2 ∧ Below b w w' ∧
      r.1 < r.2.2.length ∧ ns.length < r.2.2.length ∧ s.1 ≤ (closeS t r).2.1.1 ∧ r.2.2.length + 2 * s.1 ≤ ns.length + 2 * (closeS t r).2.1.1 + 1 := by
  go_enter Tryz.func212, Tryz.ntmps212
  go_wp2_with fail
  refine (H b s ns v xs _ hp h hm).mono ?_
  rintro e w1 ⟨r, rfl, o⟩
  obtain ⟨v1, xs1, n1⟩ := o.ns
  have hge := o.ge
  have hcnt := o.cnt
  simp only [] at hge hcnt
  by_cases hc : (takeS t 41 r.2.1).1 = true
  · have hcl : Hid (_ = _) := close_true hc
    have hg := take_gt hc
    go_wp2_with fail
    refine (take_any b 41 t _ v1 _ n1.rd (by omega) (by omega)).mono ?_
    rintro e w2 ⟨rfl, h2, k2⟩
    go_wp2
    go_ret
    refine ⟨r, rfl, o.ev, ?_, o.bel.trans (k2.below (by have := n1.rd.blk.lt; omega) (by simp)), o.idx, o.grow, ?_, ?_⟩
    · rw [hcl.out]; exact ⟨v1, xs1, n1.scan h2 k2⟩
    · rw [hcl.out]; simp only []; omega
    · rw [hcl.out]; simp only []; omega
  · have hc : (takeS t 41 r.2.1).1 = false := by simpa using hc
    have hcl : Hid (_ = _) := close_false hc
    have hfit := n1.rd.fits
    simp only [Fits] at hfit
    go_wp2_with fail
    refine (take_any b 41 t _ v1 _ n1.rd (by omega) (by omega)).mono ?_
    rintro e w2 ⟨rfl, h2, k2⟩
    go_wp2_with fail
    refine (fail_any b t _ v1 _ h2).mono ?_
    rintro e w3 ⟨rfl, h3, k3⟩
    go_wp2
    go_ret
    refine ⟨r, rfl, o.ev, ?_, o.bel.trans ((k2.trans k3).below (by have := n1.rd.blk.lt; omega) (by simp)), o.idx, o.grow, ?_, ?_⟩
    · rw [hcl.out]; exact ⟨v1, xs1, (n1.scan h2 k2).scan h3 k3⟩
    · rw [hcl.out]; simp only [failS]; omega
    · rw [hcl.out]; simp only [failS]; omega

set_option maxHeartbeats 1000000 in
theorem atom_group (H : PatC t m) (h : NV w b t s ns v xs) (hm : ns.length ≤ 500 + 2 * s.1) (hp : s.1 < t.size) (hpm : t.size - s.1 ≤ m) (hc : (nextS t s).1 = 40) : AtomC t b s ns w := by
  obtain ⟨hgt, hbw⟩ := front h hp
  have ev := fun r => Ev.group (t := t) (st := (s, ns)) (r1 := r) hc
  unfold AtomC
  go_enter Tryz.func205, Tryz.ntmps205
  go_wp2_with fail
  refine (next_any b t s v _ h.rd).mono ?_
  rintro e w1 ⟨rfl, h1, k1⟩
  have n1 := h.scan h1 k1
  have b1 : Below b w w1 := k1.below (by omega) (by simp)
  go_wp2_with fail
  refine (group_any H n1 (by omega) (by omega)).mono ?_
  rintro e w2 ⟨r, rfl, h2, h3, h4, h5, h6, h7, h8⟩
  go_wp2
  go_ret
  exact ⟨closeS t r, rfl, ev r h2, h3, b1.trans h4, h5, h6, by simp only []; omega, by simp only [closeS] at h8 ⊢; omega⟩

theorem atom_any (H : PatC t m) (h : NV w b t s ns v xs) (hm : ns.length ≤ 500 + 2 * s.1) (hp : s.1 < t.size) (hpm : t.size - s.1 ≤ m) : AtomC t b s ns w := by
  have hsm := h.rd.small
  by_cases c1 : (nextS t s).1 = 40
  · exact atom_group H h hm hp hpm c1
  by_cases c2 : (nextS t s).1 = 91
  · exact atom_list h (by omega) hp c2
  by_cases c3 : (nextS t s).1 = 46
  · exact atom_dot h (by omega) hp c3
  by_cases c4 : (nextS t s).1 = 94
  · exact atom_begin h (by omega) hp c4
  by_cases c5 : (nextS t s).1 = 36
  · exact atom_end h (by omega) hp c5
  by_cases c6 : (nextS t s).1 = 92
  · exact atom_esc h (by omega) hp c6
  by_cases c7 : (nextS t s).1 = 41 ∨ (nextS t s).1 = 124 ∨ (nextS t s).1 = 42 ∨ (nextS t s).1 = 43 ∨ (nextS t s).1 = 63 ∨ (nextS t s).1 = 123
  · exact atom_bad _ h (by omega) hp rfl c7
  · exact atom_byte h (by omega) hp _ rfl c1 c2 c3 c4 c5 c6 (by omega) (by omega) (by omega) (by omega) (by omega) (by omega)

set_option maxHeartbeats 2000000 in
theorem piece_any (H : PatC t m) (h : NV w b t s ns v xs) (hm : ns.length ≤ 500 + 2 * s.1) (hp : s.1 < t.size) (hpm : t.size - s.1 ≤ m) :
    Calls Tryz.prog 197 #[.pointer (some ⟨b, 0, none⟩)] w fun e w' => ∃ r : Nat × PS, e = .returned (.int .i64 (r.1 : Int)) ∧ Out t 2 b w w' (s, ns) 2 r := by
  have ha := atom_any H h hm hp hpm
  unfold AtomC at ha
  have hsm : Hid (t.size ≤ 40) := h.rd.small
  have ha : Hid (Calls _ _ _ _ _) := ha
  go_enter Tryz.func197, Tryz.ntmps197
  go_wp2_with fail
  refine (ha.out).mono ?_
  rintro e w1 ⟨r1, rfl, o1⟩
  clear ha
  go_wp2_with fail
  go_loopw [3] (fun it wr => ∃ r : Nat × PS, it = .int .i64 (r.1 : Int) ∧ Mid t 2 6 b w wr (s, ns) 2 r) (fun _ wr => t.size - atOf wr b)
  case atStart => exact ⟨r1, rfl, o1.mid (fun r' e => Ev.piece o1.ev e)⟩
  case round =>
    obtain ⟨r, rfl, o⟩ := hrel
    obtain ⟨v2, xs2, n2⟩ := o.ns
    have hcnt := o.cnt
    have hidx := o.idx
    have hat := atOf_eq n2.rd
    have hfit := n2.rd.fits
    simp only [Fits] at hcnt hfit
    have hat : Hid (_ = _) := hat
    by_cases hq : repS t r.2.1 = true
    · have hlt := repS_lt hq
      have hgt := repeat_gt hlt
      obtain ⟨l0, l9, m0, m9⟩ := repeat_bd t r.2.1
      have hev := fun r' e => o.ev r' (Ev.rep (r := r') hq e)
      go_wp2_with fail
      refine (atRep_any b t _ v2 _ n2.rd).mono ?_
      rintro e w2 ⟨rfl, rfl⟩
      go_wp2_with fail
      refine (repeat_any b t _ v2 _ n2.rd).mono ?_
      rintro e w3 ⟨rfl, h3, k3⟩
      have n3 := n2.scan h3 k3
      have b3 := o.bel.trans (k3.below (by have := n2.rd.blk.lt; omega) (by simp))
      go_wp2_with fail
      refine (again_any b r.1 _ _ t _ _ v2 xs2 _ n3 hidx (by have := hsm.out; omega) l0 l9 m0 m9).mono ?_
      rintro e w4 ⟨rfl, h4, b4⟩
      have hat4 : atOf w4 b = (repeatS t r.2.1).2.1 := by obtain ⟨v4, xs4, n4⟩ := h4; exact atOf_eq n4.rd
      have hg := o.grow
      have hge := o.ge
      have hat4 : Hid (_ = _) := hat4
      go_wp2
      try simp only [] at hg hge
      refine ⟨⟨againS r.1 (repeatS t r.2.1).1 ((repeatS t r.2.1).2, r.2.2), rfl, ⟨hev, h4, b3.trans b4, ?_, ?_, ?_, ?_⟩⟩, ?_⟩
      · simp [againS, addS]
      · simp [againS, addS]; omega
      · simp [againS, addS]; omega
      · simp [againS, addS]; omega
      · rw [hat.out, hat4.out]; omega
    · have hq : repS t r.2.1 = false := by simpa using hq
      have hev := o.out (Ev.repEnd hq)
      go_wp2_with fail
      refine (atRep_any b t _ v2 _ n2.rd).mono ?_
      rintro e w2 ⟨rfl, rfl⟩
      go_wp2
      go_ret
      exact ⟨r, rfl, hev⟩

set_option maxHeartbeats 2000000 in
theorem branch_any (H : PatC t m) (h : NV w b t s ns v xs) (hm : ns.length ≤ 500 + 2 * s.1) (hpm : t.size - s.1 ≤ m) :
    Calls Tryz.prog 168 #[.pointer (some ⟨b, 0, none⟩)] w fun e w' => ∃ r : Nat × PS, e = .returned (.int .i64 (r.1 : Int)) ∧ Out t 1 b w w' (s, ns) 0 r := by
  have hsm : Hid (t.size ≤ 40) := h.rd.small
  have hb := h.rd.blk.lt
  have hfit := h.rd.fits
  simp only [Fits] at hfit
  by_cases he : endS t s = true
  · have ev := Ev.empty (t := t) (st := (s, ns)) he
    go_enter Tryz.func168, Tryz.ntmps168
    go_wp2_with fail
    refine (atEnd_any b t _ v _ h.rd).mono ?_
    rintro e w1 ⟨rfl, rfl⟩
    go_wp2_with fail
    refine (add_plain b t _ ns v xs 0 0 0 0 0 1 _ h (by have := hsm.out; omega) (by omega) (by omega)).mono ?_
    rintro e w1 ⟨rfl, h1, b1⟩
    go_wp2
    go_ret
    exact ⟨_, rfl, ev, h1, b1, by simp [addS], by simp [addS], by simp [addS], by simp [addS]; omega⟩
  have he : endS t s = false := by simpa using he
  have hpc := piece_any H h hm (endS_lt he) hpm
  have hpc : Hid (Calls _ _ _ _ _) := hpc
  have ev0 := fun r1 r' (h1 : Ev t 2 0 (s, ns) r1) h2 => Ev.branch (t := t) (st := (s, ns)) (r := r') he h1 h2
  go_enter Tryz.func168, Tryz.ntmps168
  go_wp2_with fail
  refine (atEnd_any b t _ v _ h.rd).mono ?_
  rintro e w1 ⟨rfl, rfl⟩
  go_wp2_with fail
  refine (hpc.out).mono ?_
  rintro e w2 ⟨r1, rfl, o1⟩
  clear hpc h hb he
  go_wp2_with fail
  go_loopw [3] (fun it wr => ∃ r : Nat × PS, it = .int .i64 (r.1 : Int) ∧ Mid t 1 5 b w1 wr (s, ns) 2 r) (fun _ wr => t.size - atOf wr b)
  case atStart => exact ⟨r1, rfl, o1.mid (fun r' e => ev0 r1 r' o1.ev e)⟩
  case round =>
    obtain ⟨r, rfl, o⟩ := hrel
    obtain ⟨v2, xs2, n2⟩ := o.ns
    have hcnt := o.cnt
    have hidx := o.idx
    have hge := o.ge
    have hg := o.grow
    have hat : Hid (_ = _) := atOf_eq n2.rd
    have hfit := n2.rd.fits
    simp only [Fits] at hcnt hfit hge hg
    by_cases hq : endS t r.2.1 = true
    · have hev := o.out (Ev.andEnd hq)
      go_wp2_with fail
      refine (atEnd_any b t _ v2 _ n2.rd).mono ?_
      rintro e w3 ⟨rfl, rfl⟩
      go_wp2
      go_ret
      exact ⟨r, rfl, hev.ev, hev.ns, hev.bel, hev.idx, hev.grow, hev.ge, by have := hev.cnt; omega⟩
    · have hq : endS t r.2.1 = false := by simpa using hq
      have hlt := endS_lt hq
      have hpc : Hid (Calls _ _ _ _ _) := piece_any H n2 (by have := hsm.out; omega) hlt (by omega)
      have hev := fun r1 (h1 : Ev t 2 0 r.2 r1) r' e => o.ev r' (Ev.and (r := r') hq h1 e)
      go_wp2_with fail
      refine (atEnd_any b t _ v2 _ n2.rd).mono ?_
      rintro e w3 ⟨rfl, rfl⟩
      go_wp2_with fail
      refine (hpc.out).mono ?_
      rintro e w4 ⟨r4, rfl, o4⟩
      obtain ⟨v4, xs4, n4⟩ := o4.ns
      have hcnt4 := o4.cnt
      have hidx4 := o4.idx
      have hg4 := o4.grow
      have hge4 := o4.ge
      have hfit4 := n4.rd.fits
      simp only [Fits] at hcnt4 hg4 hge4 hfit4
      clear hpc
      go_wp2_with fail
      refine (join_any b r.1 r4.1 4 t _ _ v4 xs4 _ n4 (by omega) hidx4 (by have := hsm.out; omega)).mono ?_
      rintro e w5 ⟨rfl, h5, b5⟩
      have hat5 : atOf w5 b = r4.2.1.1 := by obtain ⟨v5, xs5, n5⟩ := h5; exact atOf_eq n5.rd
      have hat5 : Hid (_ = _) := hat5
      go_wp2
      refine ⟨⟨joinS 4 r.1 r4.1 r4.2, rfl, ⟨hev r4 o4.ev, h5, (o.bel.trans o4.bel).trans b5, ?_, ?_, ?_, ?_⟩⟩, ?_⟩
      · simp [joinS, addS]
      · simp [joinS, addS]; omega
      · simp [joinS, addS]; omega
      · simp [joinS, addS]; omega
      · rw [hat.out, hat5.out]; omega

set_option maxHeartbeats 2000000 in
theorem pattern_step (H : PatC t m) : PatC t (m + 1) := by
  intro b s ns v xs w hpm h hm
  have hsm : Hid (t.size ≤ 40) := h.rd.small
  have hfit := h.rd.fits
  simp only [Fits] at hfit
  have hbc : Hid (Calls _ _ _ _ _) := branch_any H h hm (by omega)
  go_enter Tryz.func136, Tryz.ntmps136
  go_wp2_with fail
  refine (hbc.out).mono ?_
  rintro e w1 ⟨r1, rfl, o1⟩
  clear hbc
  go_wp2_with fail
  go_loopw [3] (fun it wr => ∃ r : Nat × PS, it = .int .i64 (r.1 : Int) ∧ Mid t 0 4 b w wr (s, ns) 0 r) (fun _ wr => t.size - atOf wr b)
  case atStart => exact ⟨r1, rfl, o1.mid (fun r' e => Ev.pattern o1.ev e)⟩
  case round =>
    obtain ⟨r, rfl, o⟩ := hrel
    obtain ⟨v2, xs2, n2⟩ := o.ns
    have hcnt := o.cnt
    have hidx := o.idx
    have hge := o.ge
    have hg := o.grow
    have hat : Hid (_ = _) := atOf_eq n2.rd
    have hfit := n2.rd.fits
    simp only [Fits] at hcnt hfit hge hg
    by_cases hq : (takeS t 124 r.2.1).1 = true
    · have hgt := take_gt hq
      have hev := fun r1 h1 r' e => o.ev r' (Ev.or (r := r') (r1 := r1) hq h1 e)
      go_wp2_with fail
      refine (take_any b 124 t _ v2 _ n2.rd (by omega) (by omega)).mono ?_
      rintro e w3 ⟨rfl, h3, k3⟩
      have n3 := n2.scan h3 k3
      have b3 := o.bel.trans (k3.below (by have := n2.rd.blk.lt; omega) (by simp))
      have hfit3 := n3.rd.fits
      simp only [Fits] at hfit3
      have hbc : Hid (Calls _ _ _ _ _) := branch_any H n3 (by omega) (by omega)
      go_wp2_with fail
      refine (hbc.out).mono ?_
      rintro e w4 ⟨r4, rfl, o4⟩
      obtain ⟨v4, xs4, n4⟩ := o4.ns
      have hcnt4 := o4.cnt
      have hidx4 := o4.idx
      have hg4 := o4.grow
      have hge4 := o4.ge
      have hfit4 := n4.rd.fits
      simp only [Fits] at hcnt4 hg4 hge4 hfit4
      clear hbc
      go_wp2_with fail
      refine (join_any b r.1 r4.1 5 t _ _ v4 xs4 _ n4 (by omega) hidx4 (by have := hsm.out; omega)).mono ?_
      rintro e w5 ⟨rfl, h5, b5⟩
      have hat5 : atOf w5 b = r4.2.1.1 := by obtain ⟨v5, xs5, n5⟩ := h5; exact atOf_eq n5.rd
      have hat5 : Hid (_ = _) := hat5
      go_wp2
      refine ⟨⟨joinS 5 r.1 r4.1 r4.2, rfl, ⟨hev r4 o4.ev, h5, (b3.trans o4.bel).trans b5, ?_, ?_, ?_, ?_⟩⟩, ?_⟩
      · simp [joinS, addS]
      · simp [joinS, addS]; omega
      · simp [joinS, addS]; omega
      · simp [joinS, addS]; omega
      · rw [hat.out, hat5.out]; omega
    · have hq : (takeS t 124 r.2.1).1 = false := by simpa using hq
      have hev := o.out (Ev.orEnd hq)
      have hsame : takeS t 124 r.2.1 = (false, r.2.1) := by
        unfold takeS at hq ⊢
        split at hq
        · cases hq
        · rename_i hc; rw [if_neg hc]
      go_wp2_with fail
      refine (take_any b 124 t _ v2 _ n2.rd (by omega) (by omega)).mono ?_
      rintro e w3 ⟨rfl, h3, k3⟩
      go_wp2
      go_ret
      refine ⟨r, rfl, hev.ev, ?_, hev.bel.trans (k3.below (by have := n2.rd.blk.lt; omega) (by simp)), hev.idx, hev.grow, hev.ge, hev.cnt⟩
      rw [hsame] at h3
      exact ⟨v2, xs2, n2.scan h3 k3⟩

theorem pattern_any (t : ByteArray) : ∀ m, PatC t m
  | 0 => fun _ _ _ _ _ _ h => by omega
  | m + 1 => pattern_step (pattern_any t m)
end

end Go.Proofs.YtgifhgnccmnbiabGreatDoor

set_option linter.unusedVariables false
set_option linter.unusedSimpArgs false
namespace Go.Proofs.YtgifhgnccmnbiabGreatDoor
open Go.RowKit Go.IntWalk

/-- The text as it begins. -/
def st0 : PS := ((0, false), [])
/-- Not read from its first byte to its last. -/
def BadR (t : ByteArray) (r : Nat × PS) : Prop := r.2.1.2 = true ∨ r.2.1.1 < t.size

def ReadOut (t : ByteArray) (w w' : World) (e : Ending) : Prop :=
  Below w.heap.size w w' ∧ ∃ r : Nat × PS, Ev t 0 0 st0 r ∧ r.1 < r.2.2.length ∧
    ((BadR t r ∧ e = .returned (.tuple #[.agg #[.slice none 0 0, .int .i64 0], .int .i64 2])) ∨
     (¬ BadR t r ∧ 60 < sizeAt r.2.2 r.1 ∧ e = .returned (.tuple #[.agg #[.slice none 0 0, .int .i64 0], .int .i64 3])) ∨
     (¬ BadR t r ∧ sizeAt r.2.2 r.1 ≤ 60 ∧ ∃ b ao n c xs, w.heap.size ≤ b ∧ NV w' b t r.2.1 r.2.2 (.slice ao n c) xs ∧ e = .returned (.tuple #[.agg #[.slice ao n c, .int .i64 (sizeAt r.2.2 r.1)], .int .i64 0])))

theorem NV.start (w : World) (t : ByteArray) (h : t.size ≤ 40) (k : Nat) (hk : k = w.heap.size) : NV (w.alloc (.cells #[.string t, .int .i64 0, .slice none 0 0, .bool false] 214)) k t (0, false) [] (.slice none 0 0) [] := by
  subst hk
  exact ⟨⟨Blk.new _ _ _, Nat.zero_le _, h⟩, World.ownsRow_nil _ _ _ _, rfl, fun i n x hn => by simp at hn, fun n hn => by simp at hn⟩

set_option maxHeartbeats 1000000 in
theorem read_long (t : ByteArray) (w : World) (h : 40 < t.size) (hs : t.size ≤ maxLen) :
    Calls Tryz.prog 86 #[.string t] w fun e w' => e = .returned (.tuple #[.agg #[.slice none 0 0, .int .i64 0], .int .i64 3]) ∧ Below w.heap.size w w' := by
  unfold maxLen at hs
  go_enter Tryz.func86, Tryz.ntmps86
  go_wp2
  refine bodyPost_ret (v := .tuple #[.agg #[.slice none 0 0, .int .i64 0], .int .i64 3]) (by simp [results, Tryz.results86, go_sem]) rfl ⟨rfl, ?_⟩
  exact (Below.refl _ _).alloc (Nat.le_refl _) _

/-- The result's own block, behind its two stores. -/
theorem res_two {w x : World} {T : TypeId} {c0 c1 : Value} (h : Blk x w.heap.size #[c0, c1] T) (hb : Below w.heap.size w x) (u0 u1 : Value) :
    ((x.setCell ⟨w.heap.size, 0, none⟩ u0).setCell ⟨w.heap.size, 1, none⟩ u1).cell? ⟨w.heap.size, 0, none⟩ = some u0 ∧
    ((x.setCell ⟨w.heap.size, 0, none⟩ u0).setCell ⟨w.heap.size, 1, none⟩ u1).cell? ⟨w.heap.size, 1, none⟩ = some u1 ∧
    Below w.heap.size w ((x.setCell ⟨w.heap.size, 0, none⟩ u0).setCell ⟨w.heap.size, 1, none⟩ u1) := by
  have h2 := (h.set 0 u0).set 1 u1
  refine ⟨by rw [h2.cell]; rfl, by rw [h2.cell]; rfl, (hb.setCell (Nat.le_refl _) _).setCell (Nat.le_refl _) _⟩

theorem NV.other {w : World} {b k : Nat} {t : ByteArray} {s : RS} {ns : List AN} {v : Value} {xs : List IV} (h : NV w b t s ns v xs) (hk : k < b) (j : Nat) (u : Value) : NV (w.setCell ⟨k, j, none⟩ u) b t s ns v xs := by
  have gr : w.grownBy (w.setCell ⟨k, j, none⟩ u) (some k) := ⟨rfl, rfl, rfl, by simp [World.setCell], fun i hi hne => Below.heap_setCell _ _ _ _ (by rintro rfl; exact hne rfl)⟩
  have keep : ∀ {e z m : Nat} {y : Value} {ys : List Value}, w.ownsRow (b + 1) e z y m ys → (w.setCell ⟨k, j, none⟩ u).ownsRow (b + 1) e z y m ys := fun {e z m y ys} hy => by
    refine hy.kept gr ?_
    cases hv : y.ownBlock with
    | none => exact Or.inl rfl
    | some g => refine Or.inr ?_; have := own_ge hy hv; simp; omega
  exact ⟨⟨Blk.other h.rd.blk _ _ (by omega), h.rd.fits, h.rd.small⟩, keep h.row, h.len, fun i n x a c => keep (h.items i n x a c), h.sized⟩

set_option maxHeartbeats 2000000 in
theorem read_any (t : ByteArray) (w : World) (h : t.size ≤ 40) :
    Calls Tryz.prog 86 #[.string t] w fun e w' => ReadOut t w w' e := by
  have hP : Hid (∀ (w1 : World) (k : Nat) (hk : NV w1 k t (0, false) [] (.slice none 0 0) []), _) := fun w1 k hk => pattern_any t (t.size + 1) k (0, false) [] (.slice none 0 0) [] w1 (by simp only []; omega) hk (by simp)
  have nv := fun o => NV.start (w.alloc o) t h (w.heap.size + 1) (by simp)
  have bz : ∀ o, Blk ((w.alloc (.cells #[.slice none 0 0, .int .i64 0] 93)).alloc o) w.heap.size #[.slice none 0 0, .int .i64 0] 93 := fun o => (Blk.new _ _ _).alloc o
  have bw : ∀ o1 o2, Below w.heap.size w ((w.alloc o1).alloc o2) := fun o1 o2 => ((Below.refl _ _).alloc (Nat.le_refl _) _).alloc (by simp) _
  go_enter Tryz.func86, Tryz.ntmps86
  go_wp2_with fail
  refine (hP.out _ _ (nv _)).mono ?_
  rintro e w1 ⟨r, rfl, o⟩
  obtain ⟨v1, xs1, n1⟩ := o.ns
  clear hP nv
  have blw : Below w.heap.size w w1 := (bw _ _).trans (o.bel.mono (by omega))
  have bl1 : Blk w1 w.heap.size #[.slice none 0 0, .int .i64 0] 93 := (o.bel.block w.heap.size (by omega)).trans (bz _)
  have hev := o.ev
  have hidx := o.idx
  have hcnt := o.cnt
  simp only [] at hcnt
  have hfit := n1.rd.fits
  simp only [Fits] at hfit
  clear bz bw o
  have c1 := n1.rd.c1
  by_cases hlt : r.2.1.1 < t.size
  · go_wp2_with fail
    refine (fail_any _ t _ v1 _ n1.rd).mono ?_
    rintro e w2 ⟨rfl, h2, k2⟩
    have d3 := h2.c3
    have bl2 := bl1.kept k2 (by simp)
    have blw2 : Below w.heap.size w w2 := blw.trans (k2.below (by have := n1.rd.blk.lt; omega) (by simp))
    have g0 := bl2.frozen 0
    have g1 := bl2.frozen 1
    have g2 := bl2.cell 0
    have g3 := bl2.cell 1
    obtain ⟨q0, q1, q2⟩ := res_two bl2 blw2 (.slice none 0 0) (.int .i64 0)
    clear bl1 bl2
    simp only [failS] at d3
    go_wp2
    refine bodyPost_ret (v := .tuple #[.agg #[.slice none 0 0, .int .i64 0], .int .i64 2]) (by simp [results, Tryz.results86, go_sem, q0, q1]) rfl ?_
    exact ⟨q2, r, hev, hidx, Or.inl ⟨Or.inr hlt, rfl⟩⟩
  have c3 := n1.rd.c3
  have g0 := bl1.frozen 0
  have g1 := bl1.frozen 1
  have g2 := bl1.cell 0
  have g3 := bl1.cell 1
  by_cases hbad : r.2.1.2 = true
  · obtain ⟨q0, q1, q2⟩ := res_two bl1 blw (.slice none 0 0) (.int .i64 0)
    clear bl1
    rw [hbad] at c3
    have hbad : Hid (r.2.1.2 = true) := hbad
    go_wp2
    refine bodyPost_ret (v := .tuple #[.agg #[.slice none 0 0, .int .i64 0], .int .i64 2]) (by simp [results, Tryz.results86, go_sem, q0, q1]) rfl ?_
    exact ⟨q2, r, hev, hidx, Or.inl ⟨Or.inl hbad.out, rfl⟩⟩
  have hnb : Hid (¬ BadR t r) := fun hc => by rcases hc with hc | hc; exact hbad hc; exact hlt hc
  have hbad : r.2.1.2 = false := by simpa using hbad
  rw [hbad] at c3
  clear hbad
  have hbd := sizeAt_bd n1.sized r.1
  have hsz : Hid (r.2.2.length ≤ 1000) := by show _ ≤ _; simp at hcnt; omega
  by_cases hbig : 60 < sizeAt r.2.2 r.1
  · obtain ⟨q0, q1, q2⟩ := res_two bl1 blw (.slice none 0 0) (.int .i64 0)
    clear bl1
    go_wp2_with fail
    refine (size_any _ r.1 t _ _ v1 xs1 _ n1 hidx hsz.out).mono ?_
    rintro e w2 ⟨rfl, rfl⟩
    go_wp2
    refine bodyPost_ret (v := .tuple #[.agg #[.slice none 0 0, .int .i64 0], .int .i64 3]) (by simp [results, Tryz.results86, go_sem, q0, q1]) rfl ?_
    exact ⟨q2, r, hev, hidx, Or.inr (Or.inl ⟨hnb.out, hbig, rfl⟩)⟩
  · obtain ⟨g, cap, rfl⟩ := own_form n1.row (by omega)
    have c2 := n1.rd.c2
    obtain ⟨q0, q1, q2⟩ := res_two bl1 blw (.slice (some ⟨g, 0, none⟩) r.2.2.length cap) (.int .i64 (sizeAt r.2.2 r.1))
    have n3 := (n1.other (k := w.heap.size) (by omega) 0 (.slice (some ⟨g, 0, none⟩) r.2.2.length cap)).other (k := w.heap.size) (by omega) 1 (.int .i64 (sizeAt r.2.2 r.1))
    clear bl1
    go_wp2_with fail
    refine (size_any _ r.1 t _ _ _ xs1 _ n1 hidx hsz.out).mono ?_
    rintro e w2 ⟨rfl, rfl⟩
    go_wp2
    refine bodyPost_ret (v := .tuple #[.agg #[.slice (some ⟨g, 0, none⟩) r.2.2.length cap, .int .i64 (sizeAt r.2.2 r.1)], .int .i64 0]) (by simp [results, Tryz.results86, go_sem, q0, q1]) rfl ?_
    exact ⟨q2, r, hev, hidx, Or.inr (Or.inr ⟨hnb.out, by omega, w.heap.size + 1, _, _, _, xs1, by omega, n3, rfl⟩)⟩

/-- What Check comes to. -/
def CheckOut (t : ByteArray) (w w' : World) (e : Ending) : Prop :=
  Below w.heap.size w w' ∧ ∃ r : Nat × PS, Ev t 0 0 st0 r ∧ r.1 < r.2.2.length ∧
    ((BadR t r ∧ e = .returned (.tuple #[.int .i64 0, .int .i64 2])) ∨
     (¬ BadR t r ∧ 60 < sizeAt r.2.2 r.1 ∧ e = .returned (.tuple #[.int .i64 0, .int .i64 3])) ∨
     (¬ BadR t r ∧ sizeAt r.2.2 r.1 ≤ 60 ∧ e = .returned (.tuple #[.int .i64 (sizeAt r.2.2 r.1), .int .i64 0])))

set_option maxHeartbeats 1000000 in
theorem check_any (t : ByteArray) (w : World) (h : t.size ≤ 40) :
    Calls Tryz.prog 47 #[.string t] w fun e w' => CheckOut t w w' e := by
  go_enter Tryz.func47, Tryz.ntmps47
  go_wp2_with fail
  refine (read_any t _ h).mono ?_
  rintro e w1 ⟨b1, r, hev, hidx, ⟨hb, rfl⟩ | ⟨hb, hz, rfl⟩ | ⟨hb, hz, b, ao, n, c, xs, hbb, hn, rfl⟩⟩
  · have hh : Hid (∀ o, CheckOut t w (w1.alloc o) (.returned (.tuple #[.int .i64 0, .int .i64 2]))) := fun o => ⟨b1.alloc b1.size o, r, hev, hidx, Or.inl ⟨hb, rfl⟩⟩
    clear hev hidx hb
    go_wp2
    go_ret2
    exact hh.out _
  · have hh : Hid (∀ o, CheckOut t w (w1.alloc o) (.returned (.tuple #[.int .i64 0, .int .i64 3]))) := fun o => ⟨b1.alloc b1.size o, r, hev, hidx, Or.inr (Or.inl ⟨hb, hz, rfl⟩)⟩
    clear hev hidx hb
    go_wp2
    go_ret2
    exact hh.out _
  · have hh : Hid (∀ o, CheckOut t w (w1.alloc o) (.returned (.tuple #[.int .i64 (sizeAt r.2.2 r.1), .int .i64 0]))) := fun o => ⟨b1.alloc b1.size o, r, hev, hidx, Or.inr (Or.inr ⟨hb, hz, rfl⟩)⟩
    clear hev hidx hb
    go_wp2
    go_ret2
    exact hh.out _

end Go.Proofs.YtgifhgnccmnbiabGreatDoor

set_option linter.unusedVariables false
set_option linter.unusedSimpArgs false
namespace Go.Proofs.YtgifhgnccmnbiabGreatDoor

abbrev B64 := BitVec 64

theorem bit_or (x y : B64) (i : Nat) : (x ||| y).getLsbD i = (x.getLsbD i || y.getLsbD i) := BitVec.getLsbD_or
theorem bit_and (x y : B64) (i : Nat) : (x &&& y).getLsbD i = (x.getLsbD i && y.getLsbD i) := BitVec.getLsbD_and
theorem bit_shl (x : B64) (n i : Nat) : (x <<< n).getLsbD i = (decide (i < 64) && !decide (i < n) && x.getLsbD (i - n)) := BitVec.getLsbD_shiftLeft x n

/-- A part: how many steps; does it match without any; the first ones, the last ones, which come behind which, and of which node each is made. -/
structure GP where
  count : Nat := 0
  empty : Bool := false
  first : B64 := 0#64
  last : B64 := 0#64
  next : Nat → B64 := fun _ => 0#64
  node : Nat → Nat := fun _ => 0

/-- No more steps than there is room; no set holds a step that there is not. -/
structure GP.Fit (p : GP) : Prop where
  room : p.count ≤ 60
  first : ∀ i, p.first.getLsbD i = true → i < p.count
  last : ∀ i, p.last.getLsbD i = true → i < p.count
  next : ∀ s i, (p.next s).getLsbD i = true → i < p.count

/-- Behind step s: these steps, one behind the other, and then the end. -/
def GP.Run (p : GP) : Nat → List Nat → Prop
  | s, [] => p.last.getLsbD s = true
  | s, d :: r => (p.next s).getLsbD d = true ∧ p.Run d r
def GP.Acc (p : GP) : List Nat → Prop
  | [] => p.empty = true
  | d :: r => p.first.getLsbD d = true ∧ p.Run d r
/-- The words: of nodes. -/
def GP.Lang (p : GP) (u : List Nat) : Prop := ∃ l, p.Acc l ∧ u = l.map p.node

theorem GP.Run.lt {p : GP} (h : p.Fit) : ∀ {s : Nat} {l : List Nat}, p.Run s l → ∀ d, d ∈ l → d < p.count
  | _, [], _, d, hd => by cases hd
  | _, e :: r, hr, d, hd => by
    rcases List.mem_cons.1 hd with rfl | hd
    · exact h.next _ _ hr.1
    · exact GP.Run.lt h hr.2 d hd
theorem GP.Acc.lt {p : GP} (h : p.Fit) {l : List Nat} (hl : p.Acc l) : ∀ d, d ∈ l → d < p.count := fun d hd => by
  cases l with
  | nil => cases hd
  | cons e r =>
    rcases List.mem_cons.1 hd with rfl | hd
    · exact h.first _ hl.1
    · exact GP.Run.lt h hl.2 d hd

/- ONE BESIDE THE OTHER. -/
def besideP (a b : GP) : GP where
  count := a.count + b.count
  next := fun s => if a.count ≤ s ∧ s < a.count + b.count ∧ s < 60 then b.next (s - a.count) <<< a.count else a.next s
  node := fun s => if a.count ≤ s ∧ s < a.count + b.count ∧ s < 60 then b.node (s - a.count) else a.node s
def linkedP (a : GP) (fr dest : B64) : GP := { a with next := fun s => if s < 60 ∧ fr.getLsbD s = true then a.next s ||| dest else a.next s }
def bothP (a b : GP) : GP :=
  linkedP { besideP a b with
    empty := a.empty && b.empty
    first := if a.empty = true then a.first ||| b.first <<< a.count else a.first
    last := if b.empty = true then b.last <<< a.count ||| a.last else b.last <<< a.count } a.last (b.first <<< a.count)
def eitherP (a b : GP) : GP :=
  { besideP a b with
    empty := a.empty || b.empty
    first := a.first ||| b.first <<< a.count
    last := a.last ||| b.last <<< a.count }

theorem shl_iff (x : B64) (n i : Nat) (hx : ∀ j, x.getLsbD j = true → j + n < 64) : (x <<< n).getLsbD i = true ↔ n ≤ i ∧ x.getLsbD (i - n) = true := by
  rw [bit_shl]
  simp only [Bool.and_eq_true, decide_eq_true_eq, Bool.not_eq_true', decide_eq_false_iff_not]
  constructor
  · rintro ⟨⟨_, h2⟩, h3⟩; exact ⟨by omega, h3⟩
  · rintro ⟨h1, h2⟩; exact ⟨⟨by have := hx _ h2; omega, by omega⟩, h2⟩

section
variable {a b : GP} (ha : a.Fit) (hb : b.Fit) (hr : a.count + b.count ≤ 60)
include ha hb hr

theorem both_next_low {s d : Nat} (hs : s < a.count) : ((bothP a b).next s).getLsbD d = true ↔ (a.next s).getLsbD d = true ∨ (a.last.getLsbD s = true ∧ a.count ≤ d ∧ b.first.getLsbD (d - a.count) = true) := by
  have _ := ha
  simp only [bothP, linkedP, besideP]
  rw [if_neg (show ¬ (a.count ≤ s ∧ s < a.count + b.count ∧ s < 60) by omega)]
  split
  · rename_i h
    rw [bit_or, Bool.or_eq_true, shl_iff _ _ _ (fun j hj => by have := hb.first j hj; omega)]
    simp [h.2]
  · rename_i h
    have : ¬ a.last.getLsbD s = true := fun hc => h ⟨by omega, hc⟩
    simp [this]
theorem both_next_high {s d : Nat} (hs : a.count ≤ s) (hs2 : s < a.count + b.count) : ((bothP a b).next s).getLsbD d = true ↔ a.count ≤ d ∧ (b.next (s - a.count)).getLsbD (d - a.count) = true := by
  simp only [bothP, linkedP, besideP]
  rw [if_pos (show (a.count ≤ s ∧ s < a.count + b.count ∧ s < 60) by omega), if_neg, shl_iff _ _ _ (fun j hj => by have := hb.next _ j hj; omega)]
  rintro ⟨_, hc⟩
  have := ha.last s hc
  omega
theorem both_last {s : Nat} : (bothP a b).last.getLsbD s = true ↔ (a.count ≤ s ∧ b.last.getLsbD (s - a.count) = true) ∨ (b.empty = true ∧ a.last.getLsbD s = true) := by
  have _ := ha
  simp only [bothP, linkedP]
  split
  · rename_i h
    rw [bit_or, Bool.or_eq_true, shl_iff _ _ _ (fun j hj => by have := hb.last j hj; omega)]; simp [h]
  · rename_i h
    rw [shl_iff _ _ _ (fun j hj => by have := hb.last j hj; omega)]; simp [h]
theorem both_first {s : Nat} : (bothP a b).first.getLsbD s = true ↔ a.first.getLsbD s = true ∨ (a.empty = true ∧ a.count ≤ s ∧ b.first.getLsbD (s - a.count) = true) := by
  have _ := ha
  simp only [bothP, linkedP]
  split
  · rename_i h
    rw [bit_or, Bool.or_eq_true, shl_iff _ _ _ (fun j hj => by have := hb.first j hj; omega)]; simp [h]
  · rename_i h; simp [h]

theorem both_high : ∀ (l : List Nat) (s : Nat), s < b.count → ((bothP a b).Run (s + a.count) l ↔ ∃ y, l = y.map (· + a.count) ∧ b.Run s y)
  | [], s, hs => by
    simp only [GP.Run]
    rw [both_last ha hb hr]
    constructor
    · rintro (⟨_, h⟩ | ⟨_, h⟩)
      · exact ⟨[], rfl, by simpa [GP.Run] using h⟩
      · have := ha.last _ h; omega
    · rintro ⟨y, hy, h⟩
      cases y with
      | nil => exact Or.inl ⟨by omega, by simpa [GP.Run] using h⟩
      | cons => simp at hy
  | d :: r, s, hs => by
    simp only [GP.Run]
    rw [both_next_high ha hb hr (by omega) (by omega)]
    rw [show s + a.count - a.count = s by omega]
    constructor
    · rintro ⟨⟨h1, h2⟩, h3⟩
      obtain ⟨e, rfl⟩ : ∃ e, d = e + a.count := ⟨d - a.count, by omega⟩
      rw [show e + a.count - a.count = e by omega] at h2
      obtain ⟨y, rfl, h4⟩ := (both_high r e (hb.next _ _ h2)).1 h3
      exact ⟨e :: y, rfl, h2, h4⟩
    · rintro ⟨y, hy, h⟩
      cases y with
      | nil => simp at hy
      | cons e y =>
        simp only [List.map_cons, List.cons.injEq] at hy
        obtain ⟨rfl, rfl⟩ := hy
        rw [show e + a.count - a.count = e by omega]
        exact ⟨⟨by omega, h.1⟩, (both_high _ e (hb.next _ _ h.1)).2 ⟨y, rfl, h.2⟩⟩

theorem both_low : ∀ (l : List Nat) (s : Nat), s < a.count → ((bothP a b).Run s l ↔ ∃ x y, l = x ++ y.map (· + a.count) ∧ a.Run s x ∧ b.Acc y)
  | [], s, hs => by
    simp only [GP.Run]
    rw [both_last ha hb hr]
    constructor
    · rintro (⟨h, _⟩ | ⟨h1, h2⟩)
      · omega
      · exact ⟨[], [], rfl, h2, h1⟩
    · rintro ⟨x, y, he, h1, h2⟩
      cases x with
      | cons => simp at he
      | nil =>
        cases y with
        | cons => simp at he
        | nil => exact Or.inr ⟨h2, h1⟩
  | d :: r, s, hs => by
    simp only [GP.Run]
    rw [both_next_low ha hb hr hs]
    constructor
    · rintro ⟨h1 | ⟨h1, h2, h3⟩, h4⟩
      · obtain ⟨x, y, rfl, h5, h6⟩ := (both_low r d (ha.next _ _ h1)).1 h4
        exact ⟨d :: x, y, rfl, ⟨h1, h5⟩, h6⟩
      · obtain ⟨e, rfl⟩ : ∃ e, d = e + a.count := ⟨d - a.count, by omega⟩
        rw [show e + a.count - a.count = e by omega] at h3
        obtain ⟨y, rfl, h5⟩ := (both_high ha hb hr r e (hb.first _ h3)).1 h4
        exact ⟨[], e :: y, rfl, h1, h3, h5⟩
    · rintro ⟨x, y, he, h1, h2⟩
      cases x with
      | nil =>
        cases y with
        | nil => simp at he
        | cons e y =>
          simp only [List.nil_append, List.map_cons, List.cons.injEq] at he
          obtain ⟨rfl, rfl⟩ := he
          refine ⟨Or.inr ⟨h1, by omega, ?_⟩, (both_high ha hb hr _ e (hb.first _ h2.1)).2 ⟨y, rfl, h2.2⟩⟩
          rw [show e + a.count - a.count = e by omega]; exact h2.1
      | cons e x =>
        simp only [List.cons_append, List.cons.injEq] at he
        obtain ⟨rfl, rfl⟩ := he
        exact ⟨Or.inl h1.1, (both_low _ d (ha.next _ _ h1.1)).2 ⟨x, y, rfl, h1.2, h2⟩⟩

theorem both_acc (l : List Nat) : (bothP a b).Acc l ↔ ∃ x y, l = x ++ y.map (· + a.count) ∧ a.Acc x ∧ b.Acc y := by
  cases l with
  | nil =>
    simp only [GP.Acc]
    constructor
    · intro h
      simp only [bothP, linkedP, Bool.and_eq_true] at h
      exact ⟨[], [], rfl, h.1, h.2⟩
    · rintro ⟨x, y, he, h1, h2⟩
      cases x with
      | cons => simp at he
      | nil =>
        cases y with
        | cons => simp at he
        | nil => simp only [bothP, linkedP, Bool.and_eq_true]; exact ⟨h1, h2⟩
  | cons d r =>
    simp only [GP.Acc]
    rw [both_first ha hb hr]
    constructor
    · rintro ⟨h1 | ⟨h1, h2, h3⟩, h4⟩
      · obtain ⟨x, y, rfl, h5, h6⟩ := (both_low ha hb hr r d (ha.first _ h1)).1 h4
        exact ⟨d :: x, y, rfl, ⟨h1, h5⟩, h6⟩
      · obtain ⟨e, rfl⟩ : ∃ e, d = e + a.count := ⟨d - a.count, by omega⟩
        rw [show e + a.count - a.count = e by omega] at h3
        obtain ⟨y, rfl, h5⟩ := (both_high ha hb hr r e (hb.first _ h3)).1 h4
        exact ⟨[], e :: y, rfl, h1, h3, h5⟩
    · rintro ⟨x, y, he, h1, h2⟩
      cases x with
      | nil =>
        cases y with
        | nil => simp at he
        | cons e y =>
          simp only [List.nil_append, List.map_cons, List.cons.injEq] at he
          obtain ⟨rfl, rfl⟩ := he
          refine ⟨Or.inr ⟨h1, by omega, ?_⟩, (both_high ha hb hr _ e (hb.first _ h2.1)).2 ⟨y, rfl, h2.2⟩⟩
          rw [show e + a.count - a.count = e by omega]; exact h2.1
      | cons e x =>
        simp only [List.cons_append, List.cons.injEq] at he
        obtain ⟨rfl, rfl⟩ := he
        exact ⟨Or.inl h1.1, (both_low ha hb hr _ d (ha.first _ h1.1)).2 ⟨x, y, rfl, h1.2, h2⟩⟩

omit hb in
theorem beside_map_low (x : List Nat) (hx : ∀ d, d ∈ x → d < a.count) : x.map (besideP a b).node = x.map a.node := by
  have _ := ha
  have _ := hr
  refine List.map_congr_left fun d hd => ?_
  have := hx d hd
  simp only [besideP]
  rw [if_neg (by omega)]
omit ha in
theorem beside_map_high (y : List Nat) (hy : ∀ d, d ∈ y → d < b.count) : (y.map (· + a.count)).map (besideP a b).node = y.map b.node := by
  have _ := hb
  rw [List.map_map]
  refine List.map_congr_left fun d hd => ?_
  have := hy d hd
  simp only [besideP, Function.comp]
  rw [if_pos (by omega), show d + a.count - a.count = d by omega]

/-- BOTH: a word of the one, and behind it one of the other. -/
theorem both_lang (u : List Nat) : (bothP a b).Lang u ↔ ∃ x y, u = x ++ y ∧ a.Lang x ∧ b.Lang y := by
  have hn : (bothP a b).node = (besideP a b).node := rfl
  unfold GP.Lang
  constructor
  · rintro ⟨l, hl, rfl⟩
    obtain ⟨x, y, rfl, h1, h2⟩ := (both_acc ha hb hr l).1 hl
    refine ⟨_, _, ?_, ⟨x, h1, rfl⟩, ⟨y, h2, rfl⟩⟩
    rw [hn, List.map_append, beside_map_low ha hr x (h1.lt ha), beside_map_high hb hr y (h2.lt hb)]
  · rintro ⟨_, _, rfl, ⟨x, h1, rfl⟩, ⟨y, h2, rfl⟩⟩
    refine ⟨_, (both_acc ha hb hr _).2 ⟨x, y, rfl, h1, h2⟩, ?_⟩
    rw [hn, List.map_append, beside_map_low ha hr x (h1.lt ha), beside_map_high hb hr y (h2.lt hb)]

theorem both_fit : (bothP a b).Fit := by
  refine ⟨hr, fun i h => ?_, fun i h => ?_, fun s i h => ?_⟩
  · show i < a.count + b.count
    rcases (both_first ha hb hr).1 h with h | ⟨_, h1, h2⟩
    · have := ha.first _ h; omega
    · have := hb.first _ h2; omega
  · show i < a.count + b.count
    rcases (both_last ha hb hr).1 h with ⟨h1, h2⟩ | ⟨_, h2⟩
    · have := hb.last _ h2; omega
    · have := ha.last _ h2; omega
  · show i < a.count + b.count
    by_cases h1 : s < a.count
    · rcases (both_next_low ha hb hr h1).1 h with h | ⟨_, h2, h3⟩
      · have := ha.next _ _ h; omega
      · have := hb.first _ h3; omega
    · by_cases h2 : s < a.count + b.count
      · have h3 := ((both_next_high ha hb hr (by omega) h2).1 h).2
        have := hb.next _ _ h3; omega
      · simp only [bothP, linkedP, besideP] at h
        rw [if_neg (show ¬ (a.count ≤ s ∧ s < a.count + b.count ∧ s < 60) by omega)] at h
        split at h
        · rename_i h4; have := ha.last _ h4.2; omega
        · have := ha.next _ _ h; omega

/- EITHER -/
theorem either_next_low {s : Nat} (hs : s < a.count) : (eitherP a b).next s = a.next s := by
  have _ := ha
  have _ := hb
  have _ := hr
  simp only [eitherP, besideP]
  rw [if_neg (by omega)]
theorem either_next_high {s d : Nat} (hs : s < b.count) : ((eitherP a b).next (s + a.count)).getLsbD d = true ↔ a.count ≤ d ∧ (b.next s).getLsbD (d - a.count) = true := by
  have _ := ha
  simp only [eitherP, besideP]
  rw [if_pos (by omega), shl_iff _ _ _ (fun j hj => by have := hb.next _ j hj; omega), show s + a.count - a.count = s by omega]
theorem either_last {s : Nat} : (eitherP a b).last.getLsbD s = true ↔ a.last.getLsbD s = true ∨ (a.count ≤ s ∧ b.last.getLsbD (s - a.count) = true) := by
  have _ := ha
  simp only [eitherP]
  rw [bit_or, Bool.or_eq_true, shl_iff _ _ _ (fun j hj => by have := hb.last j hj; omega)]
theorem either_first {s : Nat} : (eitherP a b).first.getLsbD s = true ↔ a.first.getLsbD s = true ∨ (a.count ≤ s ∧ b.first.getLsbD (s - a.count) = true) := by
  have _ := ha
  simp only [eitherP]
  rw [bit_or, Bool.or_eq_true, shl_iff _ _ _ (fun j hj => by have := hb.first j hj; omega)]

theorem either_low : ∀ (l : List Nat) (s : Nat), s < a.count → ((eitherP a b).Run s l ↔ a.Run s l)
  | [], s, hs => by
    simp only [GP.Run]
    rw [either_last ha hb hr]
    exact ⟨fun h => h.elim id (fun h => by omega), Or.inl⟩
  | d :: r, s, hs => by
    simp only [GP.Run]
    rw [either_next_low ha hb hr hs]
    exact ⟨fun h => ⟨h.1, (either_low r d (ha.next _ _ h.1)).1 h.2⟩, fun h => ⟨h.1, (either_low r d (ha.next _ _ h.1)).2 h.2⟩⟩
theorem either_high : ∀ (l : List Nat) (s : Nat), s < b.count → ((eitherP a b).Run (s + a.count) l ↔ ∃ y, l = y.map (· + a.count) ∧ b.Run s y)
  | [], s, hs => by
    simp only [GP.Run]
    rw [either_last ha hb hr]
    constructor
    · rintro (h | ⟨_, h⟩)
      · have := ha.last _ h; omega
      · exact ⟨[], rfl, by simpa [GP.Run] using h⟩
    · rintro ⟨y, hy, h⟩
      cases y with
      | nil => exact Or.inr ⟨by omega, by simpa [GP.Run] using h⟩
      | cons => simp at hy
  | d :: r, s, hs => by
    simp only [GP.Run]
    rw [either_next_high ha hb hr hs]
    constructor
    · rintro ⟨⟨h1, h2⟩, h3⟩
      obtain ⟨e, rfl⟩ : ∃ e, d = e + a.count := ⟨d - a.count, by omega⟩
      rw [show e + a.count - a.count = e by omega] at h2
      obtain ⟨y, rfl, h4⟩ := (either_high r e (hb.next _ _ h2)).1 h3
      exact ⟨e :: y, rfl, h2, h4⟩
    · rintro ⟨y, hy, h⟩
      cases y with
      | nil => simp at hy
      | cons e y =>
        simp only [List.map_cons, List.cons.injEq] at hy
        obtain ⟨rfl, rfl⟩ := hy
        rw [show e + a.count - a.count = e by omega]
        exact ⟨⟨by omega, h.1⟩, (either_high _ e (hb.next _ _ h.1)).2 ⟨y, rfl, h.2⟩⟩
theorem either_acc (l : List Nat) : (eitherP a b).Acc l ↔ a.Acc l ∨ ∃ y, l = y.map (· + a.count) ∧ b.Acc y := by
  cases l with
  | nil =>
    simp only [GP.Acc, eitherP, Bool.or_eq_true]
    constructor
    · rintro (h | h)
      · exact Or.inl h
      · exact Or.inr ⟨[], rfl, h⟩
    · rintro (h | ⟨y, hy, h⟩)
      · exact Or.inl h
      · cases y with
        | nil => exact Or.inr h
        | cons => simp at hy
  | cons d r =>
    simp only [GP.Acc]
    rw [either_first ha hb hr]
    constructor
    · rintro ⟨h1 | ⟨h1, h2⟩, h3⟩
      · exact Or.inl ⟨h1, (either_low ha hb hr r d (ha.first _ h1)).1 h3⟩
      · obtain ⟨e, rfl⟩ : ∃ e, d = e + a.count := ⟨d - a.count, by omega⟩
        rw [show e + a.count - a.count = e by omega] at h2
        obtain ⟨y, rfl, h4⟩ := (either_high ha hb hr r e (hb.first _ h2)).1 h3
        exact Or.inr ⟨e :: y, rfl, h2, h4⟩
    · rintro (⟨h1, h2⟩ | ⟨y, hy, h⟩)
      · exact ⟨Or.inl h1, (either_low ha hb hr r d (ha.first _ h1)).2 h2⟩
      · cases y with
        | nil => simp at hy
        | cons e y =>
          simp only [List.map_cons, List.cons.injEq] at hy
          obtain ⟨rfl, rfl⟩ := hy
          refine ⟨Or.inr ⟨by omega, ?_⟩, (either_high ha hb hr _ e (hb.first _ h.1)).2 ⟨y, rfl, h.2⟩⟩
          rw [show e + a.count - a.count = e by omega]; exact h.1

/-- EITHER: a word of the one, or one of the other. -/
theorem either_lang (u : List Nat) : (eitherP a b).Lang u ↔ a.Lang u ∨ b.Lang u := by
  have hn : (eitherP a b).node = (besideP a b).node := rfl
  unfold GP.Lang
  constructor
  · rintro ⟨l, hl, rfl⟩
    rcases (either_acc ha hb hr l).1 hl with h | ⟨y, rfl, h⟩
    · exact Or.inl ⟨l, h, by rw [hn, beside_map_low ha hr l (h.lt ha)]⟩
    · exact Or.inr ⟨y, h, by rw [hn, beside_map_high hb hr y (h.lt hb)]⟩
  · rintro (⟨l, h, rfl⟩ | ⟨y, h, rfl⟩)
    · exact ⟨l, (either_acc ha hb hr l).2 (Or.inl h), by rw [hn, beside_map_low ha hr l (h.lt ha)]⟩
    · exact ⟨_, (either_acc ha hb hr _).2 (Or.inr ⟨y, rfl, h⟩), by rw [hn, beside_map_high hb hr y (h.lt hb)]⟩

theorem either_fit : (eitherP a b).Fit := by
  refine ⟨hr, fun i h => ?_, fun i h => ?_, fun s i h => ?_⟩
  · show i < a.count + b.count
    rcases (either_first ha hb hr).1 h with h | ⟨h1, h2⟩
    · have := ha.first _ h; omega
    · have := hb.first _ h2; omega
  · show i < a.count + b.count
    rcases (either_last ha hb hr).1 h with h2 | ⟨h1, h2⟩
    · have := ha.last _ h2; omega
    · have := hb.last _ h2; omega
  · show i < a.count + b.count
    simp only [eitherP, besideP] at h
    split at h
    · have h3 := ((shl_iff _ _ _ (fun j hj => by have := hb.next _ j hj; omega)).1 h).2
      have := hb.next _ _ h3
      have := ((shl_iff _ _ _ (fun j hj => by have := hb.next _ j hj; omega)).1 h).1
      omega
    · have := ha.next _ _ h; omega
end

/- AGAIN AND AGAIN: the last steps lead to the first ones. -/
def plusP (a : GP) : GP := linkedP a a.last a.first

section
variable {a : GP} (ha : a.Fit)
include ha
theorem plus_next {s d : Nat} : ((plusP a).next s).getLsbD d = true ↔ (a.next s).getLsbD d = true ∨ (a.last.getLsbD s = true ∧ a.first.getLsbD d = true) := by
  simp only [plusP, linkedP]
  split
  · rename_i h
    rw [bit_or, Bool.or_eq_true]; simp [h.2]
  · rename_i h
    have : ¬ a.last.getLsbD s = true := fun hc => h ⟨by have := ha.last _ hc; have := ha.room; omega, hc⟩
    simp [this]
theorem plus_fit : (plusP a).Fit := ⟨ha.room, ha.first, ha.last, fun s i h => by
  rcases (plus_next ha).1 h with h | ⟨_, h⟩
  · exact ha.next _ _ h
  · exact ha.first _ h⟩

theorem plus_run : ∀ (l : List Nat) (s : Nat), (plusP a).Run s l → ∃ (x : List Nat) (ys : List (List Nat)), l = x ++ ys.flatten ∧ a.Run s x ∧ ∀ y, y ∈ ys → a.Acc y
  | [], s, h => ⟨[], [], rfl, h, fun _ h => (List.not_mem_nil h).elim⟩
  | d :: r, s, h => by
    obtain ⟨h1, h2⟩ := h
    obtain ⟨x, ys, rfl, h3, h4⟩ := plus_run r d h2
    rcases (plus_next ha).1 h1 with h1 | ⟨h1, h5⟩
    · exact ⟨d :: x, ys, rfl, ⟨h1, h3⟩, h4⟩
    · refine ⟨[], (d :: x) :: ys, rfl, h1, fun y hy => ?_⟩
      rcases List.mem_cons.1 hy with rfl | hy
      · exact ⟨h5, h3⟩
      · exact h4 y hy
theorem plus_run_back : ∀ (ys : List (List Nat)) (x : List Nat) (s : Nat), a.Run s x → (∀ y, y ∈ ys → a.Acc y) → (plusP a).Run s (x ++ ys.flatten)
  | ys, d :: x, s, h, hy => ⟨(plus_next ha).2 (Or.inl h.1), plus_run_back ys x d h.2 hy⟩
  | [], [], s, h, _ => h
  | [] :: ys, [], s, h, hy => plus_run_back ys [] s h (fun y hm => hy y (List.mem_cons_of_mem _ hm))
  | (d :: x) :: ys, [], s, h, hy =>
    have h1 : a.Acc (d :: x) := hy _ (List.mem_cons_self ..)
    ⟨(plus_next ha).2 (Or.inr ⟨h, h1.1⟩), plus_run_back ys x d h1.2 (fun y hm => hy y (List.mem_cons_of_mem _ hm))⟩
termination_by ys x => (ys.length, x.length)

theorem plus_acc (l : List Nat) : (plusP a).Acc l ↔ ∃ ys : List (List Nat), ys ≠ [] ∧ l = ys.flatten ∧ ∀ y, y ∈ ys → a.Acc y := by
  constructor
  · intro h
    cases l with
    | nil => exact ⟨[[]], by simp, rfl, fun y hy => by simp at hy; subst hy; exact h⟩
    | cons d r =>
      obtain ⟨x, ys, rfl, h3, h4⟩ := plus_run ha r d h.2
      refine ⟨(d :: x) :: ys, by simp, rfl, fun y hy => ?_⟩
      rcases List.mem_cons.1 hy with rfl | hy
      · exact ⟨h.1, h3⟩
      · exact h4 y hy
  · rintro ⟨ys, hne, rfl, hy⟩
    induction ys with
    | nil => exact absurd rfl hne
    | cons y ys ih =>
      cases y with
      | nil =>
        cases ys with
        | nil => exact hy _ (List.mem_cons_self ..)
        | cons z zs => exact ih (by simp) (fun y hm => hy y (List.mem_cons_of_mem _ hm))
      | cons d x =>
        have h1 : a.Acc (d :: x) := hy _ (List.mem_cons_self ..)
        exact ⟨h1.1, plus_run_back ha ys x d h1.2 (fun y hm => hy y (List.mem_cons_of_mem _ hm))⟩

theorem acc_words (ys : List (List Nat)) (h : ∀ y, y ∈ ys → a.Acc y) : ∀ u, u ∈ ys.map (List.map a.node) → a.Lang u := fun u hu => by
  have _ := ha
  obtain ⟨y, hy, rfl⟩ := List.mem_map.1 hu
  exact ⟨y, h y hy, rfl⟩
omit ha in
theorem words_acc : ∀ us : List (List Nat), (∀ u, u ∈ us → a.Lang u) → ∃ ys : List (List Nat), us = ys.map (List.map a.node) ∧ ∀ y, y ∈ ys → a.Acc y
  | [], _ => ⟨[], rfl, fun _ h => by cases h⟩
  | u :: us, h => by
    obtain ⟨ys, rfl, h2⟩ := words_acc us (fun u hu => h u (List.mem_cons_of_mem _ hu))
    obtain ⟨y, h3, rfl⟩ := h u (List.mem_cons_self ..)
    refine ⟨y :: ys, rfl, fun z hz => ?_⟩
    rcases List.mem_cons.1 hz with rfl | hz
    · exact h3
    · exact h2 z hz
theorem plus_lang (u : List Nat) : (plusP a).Lang u ↔ ∃ us : List (List Nat), us ≠ [] ∧ u = us.flatten ∧ ∀ x, x ∈ us → a.Lang x := by
  have hn : (plusP a).node = a.node := rfl
  constructor
  · rintro ⟨l, hl, rfl⟩
    obtain ⟨ys, h1, rfl, h2⟩ := (plus_acc ha l).1 hl
    exact ⟨ys.map (List.map a.node), by simpa using h1, by rw [hn, List.map_flatten], acc_words ha ys h2⟩
  · rintro ⟨us, h1, rfl, h2⟩
    obtain ⟨ys, rfl, h3⟩ := words_acc us h2
    exact ⟨ys.flatten, (plus_acc ha _).2 ⟨ys, by simpa using h1, rfl, h3⟩, by rw [hn, List.map_flatten]⟩
end

/- OR NOTHING. -/
def orNone (a : GP) : GP := { a with empty := true }
theorem orNone_fit {a : GP} (ha : a.Fit) : (orNone a).Fit := ⟨ha.room, ha.first, ha.last, ha.next⟩
theorem orNone_run (a : GP) : ∀ (l : List Nat) (s : Nat), (orNone a).Run s l ↔ a.Run s l
  | [], _ => Iff.rfl
  | d :: r, s => by simp only [GP.Run, orNone_run a r d]; exact Iff.rfl
theorem orNone_lang (a : GP) (u : List Nat) : (orNone a).Lang u ↔ u = [] ∨ a.Lang u := by
  constructor
  · rintro ⟨l, hl, rfl⟩
    cases l with
    | nil => exact Or.inl rfl
    | cons d r => exact Or.inr ⟨d :: r, ⟨hl.1, (orNone_run a r d).1 hl.2⟩, rfl⟩
  · rintro (rfl | ⟨l, hl, rfl⟩)
    · exact ⟨[], rfl, rfl⟩
    · cases l with
      | nil => exact ⟨[], rfl, rfl⟩
      | cons d r => exact ⟨d :: r, ⟨hl.1, (orNone_run a r d).2 hl.2⟩, rfl⟩

/- REPEATS. -/
def noneP : GP := { empty := true }
theorem noneP_fit : noneP.Fit := ⟨by decide, fun i h => by simp [noneP] at h, fun i h => by simp [noneP] at h, fun s i h => by simp [noneP] at h⟩
theorem noneP_lang (u : List Nat) : noneP.Lang u ↔ u = [] := by
  constructor
  · rintro ⟨l, hl, rfl⟩
    cases l with
    | nil => rfl
    | cons d r => have := hl.1; simp [noneP] at this
  · rintro rfl; exact ⟨[], rfl, rfl⟩

def oneP (a : GP) (endless : Bool) (least times k : Nat) : GP :=
  let one := if endless = true ∧ k = times then plusP a else a
  if least < k then orNone one else one
def copiesP (a : GP) (endless : Bool) (least times : Nat) : Nat → GP
  | 0 => noneP
  | k + 1 => bothP (copiesP a endless least times k) (oneP a endless least times (k + 1))

theorem oneP_fit {a : GP} (ha : a.Fit) (e : Bool) (l t k : Nat) : (oneP a e l t k).Fit ∧ (oneP a e l t k).count = a.count := by
  unfold oneP
  simp only []
  split <;> split
  · exact ⟨orNone_fit (plus_fit ha), rfl⟩
  · exact ⟨orNone_fit ha, rfl⟩
  · exact ⟨plus_fit ha, rfl⟩
  · exact ⟨ha, rfl⟩
theorem copiesP_fit {a : GP} (ha : a.Fit) (e : Bool) (l t : Nat) : ∀ k, k * a.count ≤ 60 → (copiesP a e l t k).Fit ∧ (copiesP a e l t k).count = k * a.count
  | 0, _ => ⟨noneP_fit, by simp [copiesP, noneP]⟩
  | k + 1, h => by
    rw [Nat.add_one_mul] at h ⊢
    obtain ⟨h1, h2⟩ := copiesP_fit ha e l t k (by omega)
    obtain ⟨h3, h4⟩ := oneP_fit ha e l t (k + 1)
    refine ⟨both_fit h1 h3 (by omega), ?_⟩
    show (copiesP a e l t k).count + (oneP a e l t (k + 1)).count = _
    omega

/-- So many words of a, one behind the other. -/
def Many (L : List Nat → Prop) (n : Nat) (u : List Nat) : Prop := ∃ us : List (List Nat), us.length = n ∧ u = us.flatten ∧ ∀ x, x ∈ us → L x
theorem many_zero (L : List Nat → Prop) (u : List Nat) : Many L 0 u ↔ u = [] := by
  constructor
  · rintro ⟨us, h1, rfl, _⟩
    rw [List.length_eq_zero_iff.1 h1]; rfl
  · rintro rfl; exact ⟨[], rfl, rfl, fun _ h => by cases h⟩
theorem many_succ (L : List Nat → Prop) (n : Nat) (u : List Nat) : Many L (n + 1) u ↔ ∃ x y, u = x ++ y ∧ Many L n x ∧ L y := by
  constructor
  · rintro ⟨us, h1, rfl, h2⟩
    have hne : us ≠ [] := fun hc => by rw [hc] at h1; simp at h1
    refine ⟨us.dropLast.flatten, us.getLast hne, ?_, ⟨us.dropLast, by simp [h1], rfl, fun x hx => h2 x (List.dropLast_subset _ hx)⟩, h2 _ (List.getLast_mem hne)⟩
    conv => lhs; rw [← List.dropLast_concat_getLast hne]
    simp
  · rintro ⟨x, y, rfl, ⟨us, h1, rfl, h2⟩, h3⟩
    refine ⟨us ++ [y], by simp [h1], by simp, fun z hz => ?_⟩
    rcases List.mem_append.1 hz with hz | hz
    · exact h2 z hz
    · simp at hz; subst hz; exact h3
theorem many_add (L : List Nat → Prop) (n m : Nat) (x y : List Nat) (hx : Many L n x) (hy : Many L m y) : Many L (n + m) (x ++ y) := by
  obtain ⟨us, h1, rfl, h2⟩ := hx
  obtain ⟨vs, h3, rfl, h4⟩ := hy
  refine ⟨us ++ vs, by simp [h1, h3], by simp, fun z hz => ?_⟩
  rcases List.mem_append.1 hz with hz | hz
  · exact h2 z hz
  · exact h4 z hz

section
variable {a : GP} (ha : a.Fit)
include ha
/-- So far as the last copy is not endless. -/
theorem copies_lang (e : Bool) (l t : Nat) : ∀ (k : Nat) (_ : k * a.count ≤ 60) (_ : e = true → k < t) (u : List Nat), (copiesP a e l t k).Lang u ↔ ∃ n, (if k ≤ l then k else l) ≤ n ∧ n ≤ k ∧ Many a.Lang n u
  | 0, _, _, u => by
    rw [copiesP, noneP_lang]
    constructor
    · rintro rfl; exact ⟨0, by simp, Nat.le_refl _, (many_zero _ _).2 rfl⟩
    · rintro ⟨n, _, hn, h⟩
      obtain rfl : n = 0 := by omega
      exact (many_zero _ _).1 h
  | k + 1, hk, he, u => by
    rw [Nat.add_one_mul] at hk
    obtain ⟨h1, h2⟩ := copiesP_fit ha e l t k (by omega)
    obtain ⟨h3, h4⟩ := oneP_fit ha e l t (k + 1)
    rw [copiesP, both_lang h1 h3 (by omega)]
    have ih := copies_lang e l t k (by omega) (fun h => by have := he h; omega)
    have hone : ∀ y, (oneP a e l t (k + 1)).Lang y ↔ (l < k + 1 ∧ y = []) ∨ a.Lang y := fun y => by
      unfold oneP
      simp only []
      rw [if_neg (show ¬ (e = true ∧ k + 1 = t) from fun hc => by have := he hc.1; omega)]
      split
      · rename_i h; rw [orNone_lang]; simp [h]
      · rename_i h; simp [h]
    constructor
    · rintro ⟨x, y, rfl, hx, hy⟩
      obtain ⟨n, h5, h6, h7⟩ := (ih x).1 hx
      rcases (hone y).1 hy with ⟨h8, rfl⟩ | h8
      · refine ⟨n, ?_, by omega, by simpa using h7⟩
        rw [if_neg (by omega)]; split at h5 <;> omega
      · refine ⟨n + 1, ?_, by omega, (many_succ _ _ _).2 ⟨x, y, rfl, h7, h8⟩⟩
        split at h5 <;> split <;> omega
    · rintro ⟨n, h5, h6, h7⟩
      by_cases hn : n ≤ k ∧ l < k + 1
      · refine ⟨u, [], by simp, (ih u).2 ⟨n, ?_, hn.1, h7⟩, (hone _).2 (Or.inl ⟨hn.2, rfl⟩)⟩
        rw [if_neg (by omega)] at h5
        split <;> omega
      · obtain ⟨m, rfl⟩ : ∃ m, n = m + 1 := ⟨n - 1, by split at h5 <;> omega⟩
        obtain ⟨x, y, rfl, h8, h9⟩ := (many_succ _ _ _).1 h7
        refine ⟨x, y, rfl, (ih x).2 ⟨m, ?_, by omega, h8⟩, (hone y).2 (Or.inr h9)⟩
        split at h5 <;> split <;> omega

/-- From l to t times. -/
theorem upto_lang (l t : Nat) (ht : t * a.count ≤ 60) (hl : l ≤ t) (u : List Nat) : (copiesP a false l t t).Lang u ↔ ∃ n, l ≤ n ∧ n ≤ t ∧ Many a.Lang n u := by
  rw [copies_lang ha false l t t ht (fun h => by cases h)]
  constructor
  · rintro ⟨n, h1, h2, h3⟩; exact ⟨n, by split at h1 <;> omega, h2, h3⟩
  · rintro ⟨n, h1, h2, h3⟩; exact ⟨n, by split <;> omega, h2, h3⟩
/-- From l times on. -/
theorem endless_lang (l : Nat) (ht : (if l < 1 then 1 else l) * a.count ≤ 60) (u : List Nat) : (copiesP a true l (if l < 1 then 1 else l) (if l < 1 then 1 else l)).Lang u ↔ ∃ n, l ≤ n ∧ Many a.Lang n u := by
  obtain ⟨k, hk⟩ : ∃ k, (if l < 1 then 1 else l) = k + 1 := ⟨(if l < 1 then 1 else l) - 1, by split <;> omega⟩
  rw [hk] at ht ⊢
  rw [Nat.add_one_mul] at ht
  obtain ⟨h1, h2⟩ := copiesP_fit ha true l (k + 1) k (by omega)
  obtain ⟨h3, h4⟩ := oneP_fit ha true l (k + 1) (k + 1)
  rw [copiesP, both_lang h1 h3 (by omega)]
  have ih := copies_lang ha true l (k + 1) k (by omega) (fun _ => by omega)
  have hone : ∀ y, (oneP a true l (k + 1) (k + 1)).Lang y ↔ (l < k + 1 ∧ y = []) ∨ ∃ n, 1 ≤ n ∧ Many a.Lang n y := fun y => by
    have hp : (plusP a).Lang y ↔ ∃ n, 1 ≤ n ∧ Many a.Lang n y := by
      rw [plus_lang ha]
      constructor
      · rintro ⟨us, h5, rfl, h6⟩
        exact ⟨us.length, by have := List.length_pos_iff.2 h5; omega, us, rfl, rfl, h6⟩
      · rintro ⟨n, h5, us, rfl, rfl, h6⟩
        exact ⟨us, List.length_pos_iff.1 (by omega), rfl, h6⟩
    unfold oneP
    simp only []
    rw [if_pos (show True ∧ True from ⟨trivial, trivial⟩)]
    split
    · rename_i h; rw [orNone_lang, hp]; simp [h]
    · rename_i h; rw [hp]; simp [h]
  constructor
  · rintro ⟨x, y, rfl, hx, hy⟩
    obtain ⟨n, h5, h6, h7⟩ := (ih x).1 hx
    rcases (hone y).1 hy with ⟨h8, rfl⟩ | ⟨m, h8, h9⟩
    · refine ⟨n, ?_, by simpa using h7⟩
      by_cases h0 : l < 1
      · omega
      · rw [if_neg h0] at hk; omega
    · refine ⟨n + m, ?_, many_add _ _ _ _ _ h7 h9⟩
      by_cases h0 : l < 1
      · omega
      · rw [if_neg h0] at hk; split at h5 <;> omega
  · rintro ⟨n, h5, h6⟩
    obtain ⟨us, h7, rfl, h8⟩ := h6
    have hkn : k ≤ n := by
      by_cases h0 : l < 1
      · rw [if_pos h0] at hk; omega
      · rw [if_neg h0] at hk; omega
    refine ⟨(us.take k).flatten, (us.drop k).flatten, by rw [← List.flatten_append, List.take_append_drop], (ih _).2 ⟨k, ?_, Nat.le_refl _, us.take k, by simp [h7]; omega, rfl, fun x hx => h8 x (List.mem_of_mem_take hx)⟩, (hone _).2 ?_⟩
    · split <;> omega
    · by_cases hz : n = k
      · left
        constructor
        · by_cases h0 : l < 1
          · omega
          · rw [if_neg h0] at hk; omega
        · rw [List.drop_of_length_le (by omega)]; rfl
      · right
        exact ⟨n - k, by omega, us.drop k, by simp [h7], rfl, fun x hx => h8 x (List.mem_of_mem_drop hx)⟩
end

end Go.Proofs.YtgifhgnccmnbiabGreatDoor
