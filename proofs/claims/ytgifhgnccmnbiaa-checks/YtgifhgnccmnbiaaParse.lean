/- The reader of patterns: atom, piece, branch and pattern: the reader whole. -/
import Derived.Test.YtgifhgnccmnbiaaAtom
set_option linter.unusedVariables false
set_option linter.unusedSimpArgs false
namespace Go.Proofs.Ytgifhgnccmnbiaa
open Go.RowKit Go.IntWalk

theorem close_true {t : ByteArray} {r : Nat × PS} (h : (takeS t 41 r.2.1).1 = true) : closeS t r = (r.1, ((takeS t 41 r.2.1).2, r.2.2)) := by unfold closeS; rw [if_pos h]
theorem close_false {t : ByteArray} {r : Nat × PS} (h : (takeS t 41 r.2.1).1 = false) : closeS t r = (r.1, (failS t, r.2.2)) := by unfold closeS; rw [if_neg (by rw [h]; decide)]

/-- In the midst of a loop: 'tag0' is what is read, 'tag' what may follow. -/
structure Mid (t : ByteArray) (tag0 tag b : Nat) (w w' : World) (st : PS) (k : Nat) (r : Nat × PS) : Prop where
  ev : ∀ r', Ev t tag r.1 r.2 r' → Ev t tag0 0 st r'
  ns : NS w' b t r.2
  bel : Below b w w'
  idx : r.1 < r.2.2.length
  grow : st.2.length < r.2.2.length
  ge : st.1.1 ≤ r.2.1.1
  cnt : r.2.2.length + 2 * st.1.1 + k ≤ st.2.length + 2 * r.2.1.1 + 1
theorem Mid.out {t : ByteArray} {tag0 tag b : Nat} {w w' : World} {st : PS} {k : Nat} {r : Nat × PS} (h : Mid t tag0 tag b w w' st k r) (e : Ev t tag r.1 r.2 r) : Out t tag0 b w w' st k r :=
  ⟨h.ev r e, h.ns, h.bel, h.idx, h.grow, h.ge, h.cnt⟩
theorem Out.mid {t : ByteArray} {tag1 tag0 tag b : Nat} {w w' : World} {st : PS} {k : Nat} {r : Nat × PS} (h : Out t tag1 b w w' st k r) (e : ∀ r', Ev t tag r.1 r.2 r' → Ev t tag0 0 st r') : Mid t tag0 tag b w w' st k r :=
  ⟨e, h.ns, h.bel, h.idx, h.grow, h.ge, h.cnt⟩

/-- Where the reader stands, read off its cell: a loop's measure. -/
def atOf (w : World) (b : Nat) : Nat := match w.cell? ⟨b, 1, none⟩ with | some (.int _ n) => n.toNat | _ => 0
theorem atOf_eq {w : World} {b : Nat} {t : ByteArray} {s : RS} {v : Value} (h : RD w b t s v) : atOf w b = s.1 := by unfold atOf; rw [h.c1]; simp

section
variable {t : ByteArray} {b m : Nat} {s : RS} {ns : List AN} {v : Value} {xs : List IV} {w : World}

set_option maxHeartbeats 1000000 in
theorem group_any (H : PatC t m) (h : NV w b t s ns v xs) (hp : t.size - s.1 < m) (hm : ns.length ≤ 500 + 2 * s.1) :
    Calls Try.prog 157 #[.pointer (some ⟨b, 0, none⟩)] w fun e w' => ∃ r : Nat × PS, e = .returned (.int .i64 (r.1 : Int)) ∧ Ev t 0 0 (s, ns) r ∧ NS w' b t (closeS t r).2 ∧ Below b w w' ∧
      r.1 < r.2.2.length ∧ ns.length < r.2.2.length ∧ s.1 ≤ (closeS t r).2.1.1 ∧ r.2.2.length + 2 * s.1 ≤ ns.length + 2 * (closeS t r).2.1.1 + 1 := by
  go_enter Try.func157, Try.ntmps157
  go_wp2_with fail
  refine (H b s ns v xs _ hp h hm).mono ?_
  rintro e w1 ⟨r, rfl, o⟩
  obtain ⟨v1, xs1, n1⟩ := o.ns
  have hge := o.ge
  have hcnt := o.cnt
  simp only [] at hge hcnt
  by_cases hc : (takeS t 41 r.2.1).1 = true
  · have hcl : Hid (_ = _) := close_true hc
    have hg := take_gt hc
    go_wp2_with fail
    refine (take_any b 41 t _ v1 _ n1.rd (by omega) (by omega)).mono ?_
    rintro e w2 ⟨rfl, h2, k2⟩
    go_wp2
    go_ret
    refine ⟨r, rfl, o.ev, ?_, o.bel.trans (k2.below (by have := n1.rd.blk.lt; omega) (by simp)), o.idx, o.grow, ?_, ?_⟩
    · rw [hcl.out]; exact ⟨v1, xs1, n1.scan h2 k2⟩
    · rw [hcl.out]; simp only []; omega
    · rw [hcl.out]; simp only []; omega
  · have hc : (takeS t 41 r.2.1).1 = false := by simpa using hc
    have hcl : Hid (_ = _) := close_false hc
    have hfit := n1.rd.fits
    simp only [Fits] at hfit
    go_wp2_with fail
    refine (take_any b 41 t _ v1 _ n1.rd (by omega) (by omega)).mono ?_
    rintro e w2 ⟨rfl, h2, k2⟩
    go_wp2_with fail
    refine (fail_any b t _ v1 _ h2).mono ?_
    rintro e w3 ⟨rfl, h3, k3⟩
    go_wp2
    go_ret
    refine ⟨r, rfl, o.ev, ?_, o.bel.trans ((k2.trans k3).below (by have := n1.rd.blk.lt; omega) (by simp)), o.idx, o.grow, ?_, ?_⟩
    · rw [hcl.out]; exact ⟨v1, xs1, (n1.scan h2 k2).scan h3 k3⟩
    · rw [hcl.out]; simp only [failS]; omega
    · rw [hcl.out]; simp only [failS]; omega

set_option maxHeartbeats 1000000 in
theorem atom_group (H : PatC t m) (h : NV w b t s ns v xs) (hm : ns.length ≤ 500 + 2 * s.1) (hp : s.1 < t.size) (hpm : t.size - s.1 ≤ m) (hc : (nextS t s).1 = 40) : AtomC t b s ns w := by
  obtain ⟨hgt, hbw⟩ := front h hp
  have ev := fun r => Ev.group (t := t) (st := (s, ns)) (r1 := r) hc
  unfold AtomC
  go_enter Try.func146, Try.ntmps146
  go_wp2_with fail
  refine (next_any b t s v _ h.rd).mono ?_
  rintro e w1 ⟨rfl, h1, k1⟩
  have n1 := h.scan h1 k1
  have b1 : Below b w w1 := k1.below (by omega) (by simp)
  go_wp2_with fail
  refine (group_any H n1 (by omega) (by omega)).mono ?_
  rintro e w2 ⟨r, rfl, h2, h3, h4, h5, h6, h7, h8⟩
  go_wp2
  go_ret
  exact ⟨closeS t r, rfl, ev r h2, h3, b1.trans h4, h5, h6, by simp only []; omega, by simp only [closeS] at h8 ⊢; omega⟩

theorem atom_any (H : PatC t m) (h : NV w b t s ns v xs) (hm : ns.length ≤ 500 + 2 * s.1) (hp : s.1 < t.size) (hpm : t.size - s.1 ≤ m) : AtomC t b s ns w := by
  have hsm := h.rd.small
  by_cases c1 : (nextS t s).1 = 40
  · exact atom_group H h hm hp hpm c1
  by_cases c2 : (nextS t s).1 = 91
  · exact atom_list h (by omega) hp c2
  by_cases c3 : (nextS t s).1 = 46
  · exact atom_dot h (by omega) hp c3
  by_cases c4 : (nextS t s).1 = 94
  · exact atom_begin h (by omega) hp c4
  by_cases c5 : (nextS t s).1 = 36
  · exact atom_end h (by omega) hp c5
  by_cases c6 : (nextS t s).1 = 92
  · exact atom_esc h (by omega) hp c6
  by_cases c7 : (nextS t s).1 = 41 ∨ (nextS t s).1 = 124 ∨ (nextS t s).1 = 42 ∨ (nextS t s).1 = 43 ∨ (nextS t s).1 = 63 ∨ (nextS t s).1 = 123
  · exact atom_bad _ h (by omega) hp rfl c7
  · exact atom_byte h (by omega) hp _ rfl c1 c2 c3 c4 c5 c6 (by omega) (by omega) (by omega) (by omega) (by omega) (by omega)

set_option maxHeartbeats 2000000 in
theorem piece_any (H : PatC t m) (h : NV w b t s ns v xs) (hm : ns.length ≤ 500 + 2 * s.1) (hp : s.1 < t.size) (hpm : t.size - s.1 ≤ m) :
    Calls Try.prog 126 #[.pointer (some ⟨b, 0, none⟩)] w fun e w' => ∃ r : Nat × PS, e = .returned (.int .i64 (r.1 : Int)) ∧ Out t 2 b w w' (s, ns) 2 r := by
  have ha := atom_any H h hm hp hpm
  unfold AtomC at ha
  have hsm : Hid (t.size ≤ 40) := h.rd.small
  have ha : Hid (Calls _ _ _ _ _) := ha
  go_enter Try.func126, Try.ntmps126
  go_wp2_with fail
  refine (ha.out).mono ?_
  rintro e w1 ⟨r1, rfl, o1⟩
  clear ha
  go_wp2_with fail
  go_loopw [3] (fun it wr => ∃ r : Nat × PS, it = .int .i64 (r.1 : Int) ∧ Mid t 2 6 b w wr (s, ns) 2 r) (fun _ wr => t.size - atOf wr b)
  case atStart => exact ⟨r1, rfl, o1.mid (fun r' e => Ev.piece o1.ev e)⟩
  case round =>
    obtain ⟨r, rfl, o⟩ := hrel
    obtain ⟨v2, xs2, n2⟩ := o.ns
    have hcnt := o.cnt
    have hidx := o.idx
    have hat := atOf_eq n2.rd
    have hfit := n2.rd.fits
    simp only [Fits] at hcnt hfit
    have hat : Hid (_ = _) := hat
    by_cases hq : repS t r.2.1 = true
    · have hlt := repS_lt hq
      have hgt := repeat_gt hlt
      obtain ⟨l0, l9, m0, m9⟩ := repeat_bd t r.2.1
      have hev := fun r' e => o.ev r' (Ev.rep (r := r') hq e)
      go_wp2_with fail
      refine (atRep_any b t _ v2 _ n2.rd).mono ?_
      rintro e w2 ⟨rfl, rfl⟩
      go_wp2_with fail
      refine (repeat_any b t _ v2 _ n2.rd).mono ?_
      rintro e w3 ⟨rfl, h3, k3⟩
      have n3 := n2.scan h3 k3
      have b3 := o.bel.trans (k3.below (by have := n2.rd.blk.lt; omega) (by simp))
      go_wp2_with fail
      refine (again_any b r.1 _ _ t _ _ v2 xs2 _ n3 hidx (by have := hsm.out; omega) l0 l9 m0 m9).mono ?_
      rintro e w4 ⟨rfl, h4, b4⟩
      have hat4 : atOf w4 b = (repeatS t r.2.1).2.1 := by obtain ⟨v4, xs4, n4⟩ := h4; exact atOf_eq n4.rd
      have hg := o.grow
      have hge := o.ge
      have hat4 : Hid (_ = _) := hat4
      go_wp2
      try simp only [] at hg hge
      refine ⟨⟨againS r.1 (repeatS t r.2.1).1 ((repeatS t r.2.1).2, r.2.2), rfl, ⟨hev, h4, b3.trans b4, ?_, ?_, ?_, ?_⟩⟩, ?_⟩
      · simp [againS, addS]
      · simp [againS, addS]; omega
      · simp [againS, addS]; omega
      · simp [againS, addS]; omega
      · rw [hat.out, hat4.out]; omega
    · have hq : repS t r.2.1 = false := by simpa using hq
      have hev := o.out (Ev.repEnd hq)
      go_wp2_with fail
      refine (atRep_any b t _ v2 _ n2.rd).mono ?_
      rintro e w2 ⟨rfl, rfl⟩
      go_wp2
      go_ret
      exact ⟨r, rfl, hev⟩

set_option maxHeartbeats 2000000 in
theorem branch_any (H : PatC t m) (h : NV w b t s ns v xs) (hm : ns.length ≤ 500 + 2 * s.1) (hpm : t.size - s.1 ≤ m) :
    Calls Try.prog 88 #[.pointer (some ⟨b, 0, none⟩)] w fun e w' => ∃ r : Nat × PS, e = .returned (.int .i64 (r.1 : Int)) ∧ Out t 1 b w w' (s, ns) 0 r := by
  have hsm : Hid (t.size ≤ 40) := h.rd.small
  have hb := h.rd.blk.lt
  have hfit := h.rd.fits
  simp only [Fits] at hfit
  by_cases he : endS t s = true
  · have ev := Ev.empty (t := t) (st := (s, ns)) he
    go_enter Try.func88, Try.ntmps88
    go_wp2_with fail
    refine (atEnd_any b t _ v _ h.rd).mono ?_
    rintro e w1 ⟨rfl, rfl⟩
    go_wp2_with fail
    refine (add_plain b t _ ns v xs 0 0 0 0 0 1 _ h (by have := hsm.out; omega) (by omega) (by omega)).mono ?_
    rintro e w1 ⟨rfl, h1, b1⟩
    go_wp2
    go_ret
    exact ⟨_, rfl, ev, h1, b1, by simp [addS], by simp [addS], by simp [addS], by simp [addS]; omega⟩
  have he : endS t s = false := by simpa using he
  have hpc := piece_any H h hm (endS_lt he) hpm
  have hpc : Hid (Calls _ _ _ _ _) := hpc
  have ev0 := fun r1 r' (h1 : Ev t 2 0 (s, ns) r1) h2 => Ev.branch (t := t) (st := (s, ns)) (r := r') he h1 h2
  go_enter Try.func88, Try.ntmps88
  go_wp2_with fail
  refine (atEnd_any b t _ v _ h.rd).mono ?_
  rintro e w1 ⟨rfl, rfl⟩
  go_wp2_with fail
  refine (hpc.out).mono ?_
  rintro e w2 ⟨r1, rfl, o1⟩
  clear hpc h hb he
  go_wp2_with fail
  go_loopw [3] (fun it wr => ∃ r : Nat × PS, it = .int .i64 (r.1 : Int) ∧ Mid t 1 5 b w1 wr (s, ns) 2 r) (fun _ wr => t.size - atOf wr b)
  case atStart => exact ⟨r1, rfl, o1.mid (fun r' e => ev0 r1 r' o1.ev e)⟩
  case round =>
    obtain ⟨r, rfl, o⟩ := hrel
    obtain ⟨v2, xs2, n2⟩ := o.ns
    have hcnt := o.cnt
    have hidx := o.idx
    have hge := o.ge
    have hg := o.grow
    have hat : Hid (_ = _) := atOf_eq n2.rd
    have hfit := n2.rd.fits
    simp only [Fits] at hcnt hfit hge hg
    by_cases hq : endS t r.2.1 = true
    · have hev := o.out (Ev.andEnd hq)
      go_wp2_with fail
      refine (atEnd_any b t _ v2 _ n2.rd).mono ?_
      rintro e w3 ⟨rfl, rfl⟩
      go_wp2
      go_ret
      exact ⟨r, rfl, hev.ev, hev.ns, hev.bel, hev.idx, hev.grow, hev.ge, by have := hev.cnt; omega⟩
    · have hq : endS t r.2.1 = false := by simpa using hq
      have hlt := endS_lt hq
      have hpc : Hid (Calls _ _ _ _ _) := piece_any H n2 (by have := hsm.out; omega) hlt (by omega)
      have hev := fun r1 (h1 : Ev t 2 0 r.2 r1) r' e => o.ev r' (Ev.and (r := r') hq h1 e)
      go_wp2_with fail
      refine (atEnd_any b t _ v2 _ n2.rd).mono ?_
      rintro e w3 ⟨rfl, rfl⟩
      go_wp2_with fail
      refine (hpc.out).mono ?_
      rintro e w4 ⟨r4, rfl, o4⟩
      obtain ⟨v4, xs4, n4⟩ := o4.ns
      have hcnt4 := o4.cnt
      have hidx4 := o4.idx
      have hg4 := o4.grow
      have hge4 := o4.ge
      have hfit4 := n4.rd.fits
      simp only [Fits] at hcnt4 hg4 hge4 hfit4
      clear hpc
      go_wp2_with fail
      refine (join_any b r.1 r4.1 4 t _ _ v4 xs4 _ n4 (by omega) hidx4 (by have := hsm.out; omega)).mono ?_
      rintro e w5 ⟨rfl, h5, b5⟩
      have hat5 : atOf w5 b = r4.2.1.1 := by obtain ⟨v5, xs5, n5⟩ := h5; exact atOf_eq n5.rd
      have hat5 : Hid (_ = _) := hat5
      go_wp2
      refine ⟨⟨joinS 4 r.1 r4.1 r4.2, rfl, ⟨hev r4 o4.ev, h5, (o.bel.trans o4.bel).trans b5, ?_, ?_, ?_, ?_⟩⟩, ?_⟩
      · simp [joinS, addS]
      · simp [joinS, addS]; omega
      · simp [joinS, addS]; omega
      · simp [joinS, addS]; omega
      · rw [hat.out, hat5.out]; omega

set_option maxHeartbeats 2000000 in
theorem pattern_step (H : PatC t m) : PatC t (m + 1) := by
  intro b s ns v xs w hpm h hm
  have hsm : Hid (t.size ≤ 40) := h.rd.small
  have hfit := h.rd.fits
  simp only [Fits] at hfit
  have hbc : Hid (Calls _ _ _ _ _) := branch_any H h hm (by omega)
  go_enter Try.func60, Try.ntmps60
  go_wp2_with fail
  refine (hbc.out).mono ?_
  rintro e w1 ⟨r1, rfl, o1⟩
  clear hbc
  go_wp2_with fail
  go_loopw [3] (fun it wr => ∃ r : Nat × PS, it = .int .i64 (r.1 : Int) ∧ Mid t 0 4 b w wr (s, ns) 0 r) (fun _ wr => t.size - atOf wr b)
  case atStart => exact ⟨r1, rfl, o1.mid (fun r' e => Ev.pattern o1.ev e)⟩
  case round =>
    obtain ⟨r, rfl, o⟩ := hrel
    obtain ⟨v2, xs2, n2⟩ := o.ns
    have hcnt := o.cnt
    have hidx := o.idx
    have hge := o.ge
    have hg := o.grow
    have hat : Hid (_ = _) := atOf_eq n2.rd
    have hfit := n2.rd.fits
    simp only [Fits] at hcnt hfit hge hg
    by_cases hq : (takeS t 124 r.2.1).1 = true
    · have hgt := take_gt hq
      have hev := fun r1 h1 r' e => o.ev r' (Ev.or (r := r') (r1 := r1) hq h1 e)
      go_wp2_with fail
      refine (take_any b 124 t _ v2 _ n2.rd (by omega) (by omega)).mono ?_
      rintro e w3 ⟨rfl, h3, k3⟩
      have n3 := n2.scan h3 k3
      have b3 := o.bel.trans (k3.below (by have := n2.rd.blk.lt; omega) (by simp))
      have hfit3 := n3.rd.fits
      simp only [Fits] at hfit3
      have hbc : Hid (Calls _ _ _ _ _) := branch_any H n3 (by omega) (by omega)
      go_wp2_with fail
      refine (hbc.out).mono ?_
      rintro e w4 ⟨r4, rfl, o4⟩
      obtain ⟨v4, xs4, n4⟩ := o4.ns
      have hcnt4 := o4.cnt
      have hidx4 := o4.idx
      have hg4 := o4.grow
      have hge4 := o4.ge
      have hfit4 := n4.rd.fits
      simp only [Fits] at hcnt4 hg4 hge4 hfit4
      clear hbc
      go_wp2_with fail
      refine (join_any b r.1 r4.1 5 t _ _ v4 xs4 _ n4 (by omega) hidx4 (by have := hsm.out; omega)).mono ?_
      rintro e w5 ⟨rfl, h5, b5⟩
      have hat5 : atOf w5 b = r4.2.1.1 := by obtain ⟨v5, xs5, n5⟩ := h5; exact atOf_eq n5.rd
      have hat5 : Hid (_ = _) := hat5
      go_wp2
      refine ⟨⟨joinS 5 r.1 r4.1 r4.2, rfl, ⟨hev r4 o4.ev, h5, (b3.trans o4.bel).trans b5, ?_, ?_, ?_, ?_⟩⟩, ?_⟩
      · simp [joinS, addS]
      · simp [joinS, addS]; omega
      · simp [joinS, addS]; omega
      · simp [joinS, addS]; omega
      · rw [hat.out, hat5.out]; omega
    · have hq : (takeS t 124 r.2.1).1 = false := by simpa using hq
      have hev := o.out (Ev.orEnd hq)
      have hsame : takeS t 124 r.2.1 = (false, r.2.1) := by
        unfold takeS at hq ⊢
        split at hq
        · cases hq
        · rename_i hc; rw [if_neg hc]
      go_wp2_with fail
      refine (take_any b 124 t _ v2 _ n2.rd (by omega) (by omega)).mono ?_
      rintro e w3 ⟨rfl, h3, k3⟩
      go_wp2
      go_ret
      refine ⟨r, rfl, hev.ev, ?_, hev.bel.trans (k3.below (by have := n2.rd.blk.lt; omega) (by simp)), hev.idx, hev.grow, hev.ge, hev.cnt⟩
      rw [hsame] at h3
      exact ⟨v2, xs2, n2.scan h3 k3⟩

theorem pattern_any (t : ByteArray) : ∀ m, PatC t m
  | 0 => fun _ _ _ _ _ _ h => by omega
  | m + 1 => pattern_step (pattern_any t m)
end

end Go.Proofs.Ytgifhgnccmnbiaa
