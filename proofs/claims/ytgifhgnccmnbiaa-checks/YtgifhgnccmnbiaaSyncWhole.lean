/- Both readers side by side: pieces, branches, patterns. No walk in it. -/
import Derived.Test.YtgifhgnccmnbiaaSyncParse
import Derived.Test.YtgifhgnccmnbiaaRefPiece
set_option linter.unusedVariables false
set_option linter.unusedSimpArgs false
namespace Go.Proofs.Ytgifhgnccmnbiaa
open Go.RowKit Go.IntWalk

theorem repS_end {t : ByteArray} {b : Bool} : repS t (t.size, b) = false := by
  cases h : repS t (t.size, b) with
  | false => rfl
  | true => have := repS_lt h; simp at this
theorem endS_end {t : ByteArray} {b : Bool} : endS t (t.size, b) = true := by
  unfold endS; rw [pk_ge (p := t.size) (by omega)]; rfl
theorem end_more {t : ByteArray} {p : Nat} (hp : p ≤ t.size) : moreR t (p, false) = !endS t (p, false) := by
  unfold moreR endS
  simp only [stB, List.any_cons, List.any_nil, Bool.or_false]
  by_cases h : p < t.size
  · have e : (pk t p == -1) = false := by have := pk_lt h; simp; omega
    rw [e, decide_eq_true h]
    simp
  · rw [decide_eq_false h, pk_ge h]
    simp
theorem more_bad {t : ByteArray} {s : RS} (h : s.2 = true) : moreR t s = false := by unfold moreR; rw [h]; simp

theorem times_eq {x : PN} {n : Int} (hk : x.kind = 6) (hm : -1 ≤ x.most) : sizeK x n = if 1 < timesS x.least x.most then wrap64 (n * timesS x.least x.most) else n := by
  have e : sizeK x n = if 1 < x.most then wrap64 (n * x.most) else if x.most < 0 ∧ 1 < x.least then wrap64 (n * x.least) else n := by
    unfold sizeK; rw [if_neg (by omega), if_neg (by omega), if_pos hk]
  rw [e]
  by_cases h1 : x.most = -1
  · have ht : timesS x.least x.most = if x.least < 1 then 1 else x.least := by unfold timesS; rw [if_pos h1]
    rw [if_neg (by omega)]
    by_cases h2 : 1 < x.least
    · rw [if_neg (by omega)] at ht
      rw [if_pos ⟨by omega, h2⟩, ht, if_pos h2]
    · rw [if_neg (by omega), if_neg ?_]
      rw [ht]; split <;> omega
  · have ht : timesS x.least x.most = if x.most < 1 then 1 else x.most := by unfold timesS; rw [if_neg h1]
    by_cases h2 : 1 < x.most
    · rw [if_neg (by omega)] at ht
      rw [if_pos h2, ht, if_pos h2]
    · rw [if_neg h2, if_neg (by omega), if_neg ?_]
      rw [ht]; split <;> omega

theorem times_bd {a b : Int} (ha : a ≤ 9) (hb : b ≤ 9) : 1 ≤ timesS a b ∧ timesS a b ≤ 9 := by
  unfold timesS
  repeat' split
  all_goals omega

theorem braces_cost {t : ByteArray} {p : Nat} (h : (bracesS t (p, false)).2.2 = false) : p + 2 ≤ (bracesS t (p, false)).2.1 := by
  unfold bracesS at h ⊢
  by_cases hc : (takeS t 125 (mostS t (p, false)).2).1 = false ∨ ((mostS t (p, false)).1 ≠ -1 ∧ (mostS t (p, false)).1 < (digS t (p, false)).1)
  · rw [if_pos hc] at h; cases h
  · rw [if_neg hc] at h ⊢
    have hcl : (takeS t 125 (mostS t (p, false)).2).1 = true := by
      cases hx : (takeS t 125 (mostS t (p, false)).2).1 with
      | true => rfl
      | false => exact absurd (Or.inl hx) hc
    have h1 := take_gt hcl
    by_cases hd : p < t.size ∧ 48 ≤ pk t p ∧ pk t p ≤ 57
    · have eD := dig_good hd.1 hd.2.1 hd.2.2
      have hm : p + 1 ≤ (mostS t (p, false)).2.1 := by
        unfold mostS
        rw [eD]
        have h3 := take_ge (t := t) (c := 44) (s := (p + 1, false))
        have h4 := fits_take (t := t) (c := 44) (s := (p + 1, false)) (by omega) hd.1
        split
        · exact Nat.le_trans h3 (up_ge h4)
        · exact h3
      simp only []
      omega
    · have eD := dig_bad (t := t) (s := (p, false)) hd
      have eM : (mostS t (p, false)).2 = failS t := by
        unfold mostS; rw [eD]; simp only []; rw [take_fail (by omega)]; simp
      rw [eM, take_fail (by omega)] at hcl
      cases hcl
theorem rep_cost {t : ByteArray} {p : Nat} (hr : repS t (p, false) = true) (h : (repeatS t (p, false)).2.2 = false) :
    (timesS (repeatS t (p, false)).1.1 (repeatS t (p, false)).1.2 = 1 ∧ p + 1 ≤ (repeatS t (p, false)).2.1) ∨ p + 3 ≤ (repeatS t (p, false)).2.1 := by
  have hp := repS_lt hr
  have e1 := next_lt (s := (p, false)) hp
  unfold repeatS at h ⊢
  rw [e1] at h ⊢
  simp only [] at h ⊢
  by_cases h1 : pk t p = 42
  · rw [if_pos h1]; left; exact ⟨rfl, Nat.le_refl _⟩
  rw [if_neg h1] at h ⊢
  by_cases h2 : pk t p = 43
  · rw [if_pos h2]; left; exact ⟨rfl, Nat.le_refl _⟩
  rw [if_neg h2] at h ⊢
  by_cases h3 : pk t p = 63
  · rw [if_pos h3]; left; exact ⟨rfl, Nat.le_refl _⟩
  rw [if_neg h3] at h ⊢
  right
  have := braces_cost h
  omega

theorem Bd.nine {k : Int} (h1 : 1 ≤ k) (h9 : k ≤ 9) : Bd k 3 := by
  refine ⟨h1, ?_⟩
  have e2 : (2 : Int) ^ 3 = 8 := by decide
  have e5 : (5 : Int) ^ 3 = 125 := by decide
  rw [e2, e5]; omega

theorem bndR_fits {t : ByteArray} {s : RS} (h : s.1 ≤ t.size) : (bndR t s).2.1 ≤ t.size := by
  have f1 := fits_tk (t := t) (s := s) h
  have f2 := fits_take (t := t) (c := 44) (by omega) f1
  have f3 := fits_take (t := t) (c := 125) (by omega) f2
  have f4 := fits_tk f3
  have f5 := fits_take (t := t) (c := 125) (by omega) f4
  simp only [Fits] at f1 f2 f3 f4 f5
  have hm : (bndMost t s).2.2.1 ≤ t.size := by
    unfold bndMost
    simp only []
    split
    · exact f3
    · split
      · simp only []; split
        · exact f5
        · exact f5
      · exact f3
  unfold bndR
  simp only []
  split
  · exact hm
  · exact hm
theorem repR_fits {t : ByteArray} {s : RS} (h : s.1 ≤ t.size) : (repR t s).2.1 ≤ t.size := by
  have f1 := fits_tk (t := t) (s := s) h
  unfold repR
  repeat' split
  all_goals first | exact f1 | exact bndR_fits f1

/-- What may follow an atom. -/
theorem rep_sync {t : ByteArray} (hsm : t.size ≤ 40) {p : Nat} {ns : List AN} {ps : List PN} : ∀ (n : Nat) (r1 : Nat × PS) (q1 : Nat × RP), t.size - q1.2.1.1 ≤ n → PO t p ns ps r1 q1 → (q1.2.1.2 = false → p < q1.2.1.1) →
    ∃ r q, Ev t 6 r1.1 r1.2 r ∧ EvR t 4 [q1.1] q1.2 q ∧ PO t p ns ps r q ∧ (q.2.1.2 = false → p < q.2.1.1)
  | n, r1, q1, hn, h, hgt => by
    cases hb : q1.2.1.2 with
    | true =>
      have e1 := sync_bad h.sync hb
      exact ⟨r1, q1, Ev.repEnd (st := r1.2) (by rw [e1]; exact repS_end), EvR.repEnd (st := q1.2) (Or.inl hb), h, hgt⟩
    | false =>
      have e1 := sync_good h.sync hb
      have hsz := h.sz hb
      have hgt1 := hgt hb
      obtain ⟨i, ⟨sa, nsa⟩⟩ := r1
      obtain ⟨j, ⟨⟨pb, bb⟩, psb⟩⟩ := q1
      simp only [] at hb e1 hsz hgt1 hn
      subst hb e1
      cases hr : repS t (pb, false) with
      | false => exact ⟨_, _, Ev.repEnd (st := ((pb, false), nsa)) hr, EvR.repEnd (st := ((pb, false), psb)) (Or.inr (by rw [st4]; exact hr)), h, hgt⟩
      | true =>
        have hlt := repS_lt hr
        obtain ⟨more, hen⟩ := h.en
        obtain ⟨more2, hep⟩ := h.ep
        simp only [] at hen hep
        have hkk : ∀ k, k ∈ [j] → k < psb.length := fun k hk => by simp at hk; subst hk; exact hsz.2.1
        rcases sync_repeat hr with ⟨g1, g2⟩ | ⟨g1, g2⟩
        · have eA := Ev.rep (t := t) (cur := i) (st := ((pb, false), nsa)) hr (Ev.repEnd (st := (againS i (repeatS t (pb, false)).1 ((repeatS t (pb, false)).2, nsa)).2) (by show repS t (repeatS t (pb, false)).2 = false; rw [g1]; exact repS_end))
          have eB := EvR.rep (t := t) (x := j) (st := ((pb, false), psb)) rfl (by rw [st4]; exact hr) (EvR.repEnd (st := ((repR t (pb, false)).2, psb ++ [{ kind := 6, kids := [j], least := (repR t (pb, false)).1.1, most := (repR t (pb, false)).1.2 }])) (Or.inl g2))
          refine ⟨_, _, eA, eB, ⟨Or.inl ⟨g1, g2⟩, ⟨more ++ [_], by show nsa ++ [_] = _; rw [hen, List.append_assoc]⟩, ⟨more2 ++ [_], by show psb ++ [_] = _; rw [hep, List.append_assoc]⟩, WfP.push h.wf hkk, ?_, ?_, by simp [pushP], fun hc => ?_⟩, fun hc => ?_⟩
          · show p ≤ (repR t (pb, false)).2.1
            have h1 : pb ≤ (repR t (pb, false)).2.1 := by
              unfold repR
              have := tk_ge (t := t) (s := (pb, false))
              repeat' split
              all_goals first | exact this | exact Nat.le_trans this bndR_ge
            have := h.ge; simp only [] at this; omega
          · show (repR t (pb, false)).2.1 ≤ t.size
            exact repR_fits (Nat.le_of_lt hlt)
          · have hc : (repR t (pb, false)).2.2 = false := hc
            rw [g2] at hc; cases hc
          · have hc : (repR t (pb, false)).2.2 = false := hc
            rw [g2] at hc; cases hc
        · have hcost := rep_cost hr g2
          obtain ⟨l0, l9, m0, m9⟩ := repeat_bd t (pb, false)
          have hfit2 := fits_repeat (t := t) (s := (pb, false)) (Nat.le_of_lt hlt)
          generalize hR : repeatS t (pb, false) = R at *
          obtain ⟨⟨least, most⟩, ⟨p2, b2⟩⟩ := R
          simp only [Fits] at g2 hcost l0 l9 m0 m9 hfit2
          subst g2
          obtain ⟨t1, t9⟩ := times_bd (a := least) (b := most) l9 m9
          have hTn : T (psb ++ [{ kind := 6, kids := [j], least := least, most := most }]) psb.length = T psb j * timesS least most := by
            rw [T_new h.wf hkk]
            have hs1 : sumT psb [j] = T psb j := by
              have hsmall := hsz.2.2.2.small (by have := h.fit; simp only [] at this; omega)
              have := hsz.2.2.2.1
              show wrap64 (0 + T psb j) = _
              rw [Int.zero_add]
              exact wrap64_in _ (by omega)
            rw [times_eq rfl m0, hs1]
            simp only []
            split
            · have hprod : Bd (T psb j * timesS least most) (pb - p + 3) := hsz.2.2.2.mul (Bd.nine t1 t9)
              have hb2 := hprod.1
              have h40 : T psb j * timesS least most ≤ 74446255130 * 1000000 := by
                have hsmall := hsz.2.2.2.small (by have := h.fit; simp only [] at this; omega)
                have h2 := Int.mul_le_mul hsmall t9 (by omega) (by omega)
                omega
              exact wrap64_in _ (by omega)
            · have : timesS least most = 1 := by omega
              rw [this, Int.mul_one]
          have hbd : Bd (T psb j * timesS least most) (p2 - p) := by
            rcases hcost with ⟨k1, k2⟩ | k2
            · rw [k1, Int.mul_one]
              have := hsz.2.2.2.more (c := p2 - pb)
              rwa [show pb - p + (p2 - pb) = p2 - p by omega] at this
            · have := (hsz.2.2.2.mul (Bd.nine t1 t9)).more (c := p2 - (pb + 3))
              rwa [show pb - p + 3 + (p2 - (pb + 3)) = p2 - p by omega] at this
          have po2 : PO t p ns ps (againS i (least, most) ((p2, false), nsa)) (pushP { kind := 6, kids := [j], least := least, most := most } ((p2, false), psb)) := by
            refine ⟨Or.inr ⟨rfl, rfl⟩, ⟨more ++ [_], by show nsa ++ [_] = _; rw [hen, List.append_assoc]⟩, ⟨more2 ++ [_], by show psb ++ [_] = _; rw [hep, List.append_assoc]⟩, WfP.push h.wf hkk, by show p ≤ p2; omega, hfit2, by simp [pushP], fun _ => ⟨by simp [againS, addS], by simp [pushP], ?_, ?_⟩⟩
            · show sizeAt (nsa ++ [capN _]) nsa.length = cap61 (T (psb ++ [_]) psb.length)
              rw [sizeAt_new, hTn]
              show cap61 (sizeAt nsa i * timesS least most) = _
              rw [hsz.2.2.1, cap_mul _ _ hsz.2.2.2.1 t1]
            · show Bd (T (psb ++ [_]) psb.length) (p2 - p)
              rw [hTn]; exact hbd
          match n, hn with
          | 0, hn => omega
          | n + 1, hn =>
            obtain ⟨r, q, a1, a2, a3, a4⟩ := rep_sync hsm n _ _ (by show t.size - p2 ≤ n; omega) po2 (fun _ => by show p < p2; omega)
            refine ⟨r, q, Ev.rep (st := ((pb, false), nsa)) hr (by rw [hR]; exact a1), EvR.rep (st := ((pb, false), psb)) rfl (by rw [st4]; exact hr) ?_, a3, a4⟩
            rw [← g1]; exact a2

end Go.Proofs.Ytgifhgnccmnbiaa
