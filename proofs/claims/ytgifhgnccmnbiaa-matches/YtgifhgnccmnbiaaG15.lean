/- Both readers side by side: whole patterns, and what they match. No walk in it. -/
import Derived.Test.YtgifhgnccmnbiaaG14
import Derived.Test.YtgifhgnccmnbiaaG03
import Derived.Test.YtgifhgnccmnbiaaG07
set_option linter.unusedVariables false
set_option linter.unusedSimpArgs false
namespace Go.Proofs.Ytgifhgnccmnbiaa
open Go.RowKit Go.IntWalk

def Sz (ns : List AN) (i : Nat) (ps : List PN) (j d : Nat) : Prop := i < ns.length ∧ j < ps.length ∧ sizeAt ns i = cap61 (T ps j) ∧ Bd (T ps j) d ∧ Same ns i ps j

structure PO (t : ByteArray) (p : Nat) (ns : List AN) (ps : List PN) (r : Nat × PS) (q : Nat × RP) : Prop where
  sync : Sync t r.2.1 q.2.1
  en : ∃ more, r.2.2 = ns ++ more
  ep : ∃ more, q.2.2 = ps ++ more
  wf : WfP q.2.2
  ge : p ≤ q.2.1.1
  fit : q.2.1.1 ≤ t.size
  jdx : q.1 < q.2.2.length
  sz : q.2.1.2 = false → Sz r.2.2 r.1 q.2.2 q.1 (q.2.1.1 - p)

theorem leaf_po {t : ByteArray} {p : Nat} {ns : List AN} {ps : List PN} {n : AN} {x : PN} {a b : RS} (hw : WfP ps) (hs : Sync t a b) (hn : n.size = 1) (hk : x.kids = []) (hx : sizeK x 0 = 1) (h1 : p ≤ b.1) (h2 : b.1 ≤ t.size) (hx2 : b.2 = false → LeafTie n x) :
    PO t p ns ps (addS n (a, ns)) (pushP x (b, ps)) := by
  have hkk : ∀ k, k ∈ x.kids → k < ps.length := fun k hk' => by rw [hk] at hk'; cases hk'
  refine ⟨hs, ⟨_, rfl⟩, ⟨_, rfl⟩, hw.push hkk, h1, h2, by simp [pushP], fun hb2 => ⟨by simp [addS], by simp [pushP], ?_, ?_, Same.leaf (hx2 hb2)⟩⟩
  · show sizeAt (ns ++ [capN n]) ns.length = cap61 (T (ps ++ [x]) ps.length)
    rw [sizeAt_new, T_new hw hkk, hk, hn]
    show _ = cap61 (sizeK x 0)
    rw [hx]
  · show Bd (T (ps ++ [x]) ps.length) _
    rw [T_new hw hkk, hk]
    show Bd (sizeK x 0) _
    rw [hx]
    exact Bd.one _

theorem sync_good {t : ByteArray} {a b : RS} (h : Sync t a b) (hb : b.2 = false) : a = b := by
  rcases h with ⟨_, h⟩ | ⟨h, _⟩
  · rw [hb] at h; cases h
  · exact h
theorem sync_bad {t : ByteArray} {a b : RS} (h : Sync t a b) (hb : b.2 = true) : a = (t.size, true) := by
  rcases h with ⟨h, _⟩ | ⟨h, h2⟩
  · exact h
  · rw [h, hb] at h2; cases h2
theorem Sync.fail {t : ByteArray} {b : RS} (hb : b.2 = true) : Sync t (failS t) b := Or.inl ⟨rfl, hb⟩

theorem take_le {t : ByteArray} {c : Int} {s : RS} (hc : 0 ≤ c) (h : s.1 ≤ t.size) : (takeS t c s).2.1 ≤ t.size := fits_take (s := s) hc h

theorem close_po {t : ByteArray} {p : Nat} {ns : List AN} {ps : List PN} {r : Nat × PS} {q : Nat × RP} (h : PO t (p + 1) ns ps r q) (hp : p < t.size) :
    PO t p ns ps (closeS t r) (closeR t q) ∧ ((closeR t q).2.1.2 = false → p < (closeR t q).2.1.1) := by
  have hge := h.ge
  have hg2 := take_ge (t := t) (c := 41) (s := q.2.1)
  have hl2 := take_le (c := 41) (by omega) h.fit
  have hpos : (closeR t q).2.1.1 = (takeS t 41 q.2.1).2.1 := by unfold closeR; simp only []; split <;> rfl
  cases hb : q.2.1.2 with
  | true =>
    have e1 := sync_bad h.sync hb
    have hbad : (closeR t q).2.1.2 = true := by unfold closeR; simp only []; split; exact take_bad hb; rfl
    refine ⟨⟨Or.inl ⟨?_, hbad⟩, h.en, h.ep, h.wf, by rw [hpos]; omega, by rw [hpos]; exact hl2, h.jdx, fun hc => by rw [hbad] at hc; cases hc⟩, fun hc => by rw [hbad] at hc; cases hc⟩
    unfold closeS
    simp only []
    rw [e1, take_miss (s := (t.size, true)) (by rw [pk_ge (by omega)]; decide)]
    rfl
  | false =>
    have e1 := sync_good h.sync hb
    have hsz := h.sz hb
    by_cases hc : pk t q.2.1.1 = 41
    · have et := take_hit (t := t) (s := q.2.1) hc
      have eS : closeS t r = (r.1, ((q.2.1.1 + 1, q.2.1.2), r.2.2)) := by unfold closeS; rw [e1, et]; rfl
      have eR : closeR t q = (q.1, ((q.2.1.1 + 1, q.2.1.2), q.2.2)) := by unfold closeR; rw [et]; rfl
      rw [et] at hl2
      rw [eS, eR]
      refine ⟨⟨Or.inr ⟨rfl, hb⟩, h.en, h.ep, h.wf, by simp only []; omega, hl2, h.jdx, fun _ => ⟨hsz.1, hsz.2.1, hsz.2.2.1, ?_, hsz.2.2.2.2⟩⟩, fun _ => by simp only []; omega⟩
      have := hsz.2.2.2.1.more (c := 2)
      simp only []
      rwa [show q.2.1.1 - (p + 1) + 2 = q.2.1.1 + 1 - p by omega] at this
    · have et := take_miss (t := t) (s := q.2.1) hc
      have eS : closeS t r = (r.1, (failS t, r.2.2)) := by unfold closeS; rw [e1, et]; rfl
      have eR : closeR t q = (q.1, (markS q.2.1, q.2.2)) := by unfold closeR; rw [et]; rfl
      rw [eS, eR]
      exact ⟨⟨Sync.fail rfl, h.en, h.ep, h.wf, by simp only [markS]; omega, h.fit, h.jdx, fun hc => by cases hc⟩, fun hc => by cases hc⟩

/-- The claim for patterns, where fewer than m bytes are left. -/
def PatS (t : ByteArray) (m : Nat) : Prop :=
  ∀ (p : Nat) (ns : List AN) (ps : List PN), WfP ps → p ≤ t.size → t.size - p < m → ∃ r q, Ev t 0 0 ((p, false), ns) r ∧ EvR t 0 [] ((p, false), ps) q ∧ PO t p ns ps r q

theorem st4 {t : ByteArray} {s : RS} : stB t s [42, 43, 63, 123] = repS t s := by
  simp only [stB, repS, List.any_cons, List.any_nil, Bool.or_false, Bool.or_assoc]
  rfl
theorem kindOne {x : PN} (h : x.kind = 1 ∨ x.kind = 2 ∨ x.kind = 3) (n : Int) : sizeK x n = 1 := if_pos h

theorem atom_sync {t : ByteArray} {m p : Nat} {ns : List AN} {ps : List PN} (H : PatS t m) (hw : WfP ps) (hp : p < t.size) (h124 : pk t p ≠ 124) (h41 : pk t p ≠ 41) (hm : t.size - p ≤ m) :
    ∃ r q, Ev t 3 0 ((p, false), ns) r ∧ EvR t 3 [] ((p, false), ps) q ∧ PO t p ns ps r q ∧ (q.2.1.2 = false → p < q.2.1.1) := by
  have eN := next_lt (s := (p, false)) hp
  by_cases hr : repS t (p, false) = true
  · have hr2 := hr
    simp only [repS, Bool.or_eq_true, beq_iff_eq] at hr2
    have eO : openR t (p, false) = (p, true) := by unfold openR; rw [st4]; exact if_pos hr
    have eT : tkS t (openR t (p, false)) = (pk t p, (p + 1, true)) := by rw [eO]; exact tk_lt (s := (p, true)) hp
    have e1 := Ev.plain (t := t) (st := ((p, false), ns)) (by rw [eN]; simp only []; omega) (by rw [eN]; simp only []; omega)
    have e2 := EvR.plain (t := t) (st := ((p, false), ps)) (by rw [eT]; simp only []; omega)
    rw [eN] at e1
    rw [eT] at e2
    have p1 : plainS t (pk t p) ((p + 1, false), ns) = addS { kind := 1, its := [(pk t p, pk t p)], size := 1 } (failS t, ns) := by
      unfold plainS
      rw [if_neg (by omega), if_neg (by omega), if_neg (by omega), if_neg (by omega), if_pos (by omega)]
      rfl
    have p2 : plainR t (pk t p) ((p + 1, true), ps) = pushP { kind := 1, ins := one (pk t p) } ((p + 1, true), ps) := by
      unfold plainR
      rw [if_neg (by omega), if_neg (by omega), if_neg (by omega), if_neg (by omega), if_neg (by omega)]
    simp only [] at e1 e2
    rw [p1] at e1
    rw [p2] at e2
    exact ⟨_, _, e1, e2, leaf_po hw (Sync.fail rfl) rfl rfl (kindOne (Or.inl rfl) 0) (by simp only []; omega) hp (fun h => by cases h), fun hc => by cases hc⟩
  have eO : openR t (p, false) = (p, false) := by unfold openR; rw [st4]; exact if_neg hr
  have eT : tkS t (openR t (p, false)) = (pk t p, (p + 1, false)) := by rw [eO]; exact tk_lt (s := (p, false)) hp
  have hr3 : pk t p ≠ 42 ∧ pk t p ≠ 43 ∧ pk t p ≠ 63 ∧ pk t p ≠ 123 := by
    simp only [repS, Bool.or_eq_true, beq_iff_eq] at hr; omega
  by_cases c40 : pk t p = 40
  · obtain ⟨r, q, hr1, hq1, po⟩ := H (p + 1) ns ps hw hp (by omega)
    have e1 := Ev.group (t := t) (st := ((p, false), ns)) (r1 := r) (by rw [eN]; exact c40) (by rw [eN]; exact hr1)
    have e2 := EvR.group (t := t) (st := ((p, false), ps)) (r1 := q) (by rw [eT]; exact c40) (by rw [eT]; exact hq1)
    obtain ⟨h1, h2⟩ := close_po po hp
    exact ⟨_, _, e1, e2, h1, h2⟩
  have e2 := EvR.plain (t := t) (st := ((p, false), ps)) (by rw [eT]; exact c40)
  rw [eT] at e2
  simp only [] at e2
  by_cases c91 : pk t p = 91
  · have e1 := Ev.list (t := t) (st := ((p, false), ns)) (by rw [eN]; exact c91)
    rw [eN] at e1
    simp only [] at e1
    have p1 : listS t ((p + 1, false), ns) = addS { kind := 1, its := (itemsS t (takeS t 94 (p + 1, false)).2 []).1, neg := (takeS t 94 (p + 1, false)).1, size := 1 } (listOut t (itemsS t (takeS t 94 (p + 1, false)).2 []), ns) := rfl
    have p2 : plainR t (pk t p) ((p + 1, false), ps) = pushP { kind := 1, ins := (itemsR t (takeS t 94 (p + 1, false)).2 (fun _ => false)).2, neg := (takeS t 94 (p + 1, false)).1 } ((itemsR t (takeS t 94 (p + 1, false)).2 (fun _ => false)).1, ps) := by unfold plainR; rw [if_pos c91]
    rw [p1] at e1
    rw [p2] at e2
    have htk : ∃ p1, (takeS t 94 (p + 1, false)).2 = (p1, false) ∧ p + 1 ≤ p1 ∧ p1 ≤ t.size := by
      by_cases hc : pk t (p + 1) = 94
      · refine ⟨p + 2, by rw [take_hit (s := (p + 1, false)) hc], by omega, pk_some (by omega)⟩
      · exact ⟨p + 1, by rw [take_miss (s := (p + 1, false)) hc], Nat.le_refl _, hp⟩
    obtain ⟨p1', hp1, hp2, hp3⟩ := htk
    have hs := sync_items (t := t) (t.size - p1') p1' [] (fun _ => false) (Nat.le_refl _) hp3 (Or.inl rfl)
    rw [hp1] at e1 e2
    have hge := itemsR_ge (t := t) (s := (p1', false)) (f := fun _ => false)
    have hfit : (itemsR t (p1', false) (fun _ => false)).1.1 ≤ t.size := by
      have : ∀ (n : Nat) (s : RS) (f : Nat → Bool), Fits t s → Fits t (itemsG t n s f).1 := by
        intro n
        induction n with
        | zero => intro s f h; exact h
        | succ n ih =>
          intro s f h
          rw [itemsG]
          split
          · exact h
          · split
            · exact fits_take (by omega) (fits_itemR h)
            · exact ih _ _ (fits_take (by omega) (fits_itemR h))
      exact this _ _ _ hp3
    exact ⟨_, _, e1, e2, leaf_po hw hs rfl rfl (kindOne (Or.inl rfl) 0) (by simp only [] at hge; omega) hfit (fun hb => leaf_tie rfl rfl rfl (items_tie (t.size - p1') p1' [] (fun _ => false) (Nat.le_refl _) hp3 (fun c hc => rfl) hb)), fun _ => by simp only [pushP]; simp only [] at hge; omega⟩
  have e1 := Ev.plain (t := t) (st := ((p, false), ns)) (by rw [eN]; exact c40) (by rw [eN]; exact c91)
  rw [eN] at e1
  simp only [] at e1
  have good : Sync t (p + 1, false) (p + 1, false) := Or.inr ⟨rfl, rfl⟩
  by_cases c46 : pk t p = 46
  · have p1 : plainS t (pk t p) ((p + 1, false), ns) = addS { kind := 1, its := [(0, 255)], size := 1 } ((p + 1, false), ns) := by unfold plainS; rw [if_pos c46]; rfl
    have p2 : plainR t (pk t p) ((p + 1, false), ps) = pushP { kind := 1, neg := true } ((p + 1, false), ps) := by unfold plainR; rw [if_neg (by omega), if_neg (by omega), if_neg (by omega), if_pos c46]
    rw [p1] at e1
    rw [p2] at e2
    exact ⟨_, _, e1, e2, leaf_po hw good rfl rfl (kindOne (Or.inl rfl) 0) (by simp only []; omega) hp (fun _ => dot_tie _ _ rfl rfl rfl rfl rfl rfl), fun _ => by simp only [pushP]; omega⟩
  by_cases c94 : pk t p = 94
  · have p1 : plainS t (pk t p) ((p + 1, false), ns) = addS { kind := 2, size := 1 } ((p + 1, false), ns) := by unfold plainS; rw [if_neg c46, if_pos c94]
    have p2 : plainR t (pk t p) ((p + 1, false), ps) = pushP { kind := 2, ins := one 94 } ((p + 1, false), ps) := by unfold plainR; rw [if_neg c91, if_pos c94]
    rw [p1] at e1
    rw [p2] at e2
    exact ⟨_, _, e1, e2, leaf_po hw good rfl rfl (kindOne (Or.inr (Or.inl rfl)) 0) (by simp only []; omega) hp (fun _ => Or.inr (Or.inl ⟨rfl, rfl⟩)), fun _ => by simp only [pushP]; omega⟩
  by_cases c36 : pk t p = 36
  · have p1 : plainS t (pk t p) ((p + 1, false), ns) = addS { kind := 3, size := 1 } ((p + 1, false), ns) := by unfold plainS; rw [if_neg c46, if_neg c94, if_pos c36]
    have p2 : plainR t (pk t p) ((p + 1, false), ps) = pushP { kind := 3, ins := one 36 } ((p + 1, false), ps) := by unfold plainR; rw [if_neg c91, if_neg c94, if_pos c36]
    rw [p1] at e1
    rw [p2] at e2
    exact ⟨_, _, e1, e2, leaf_po hw good rfl rfl (kindOne (Or.inr (Or.inr rfl)) 0) (by simp only []; omega) hp (fun _ => Or.inr (Or.inr (Or.inl ⟨rfl, rfl⟩))), fun _ => by simp only [pushP]; omega⟩
  by_cases c92 : pk t p = 92
  · have p1 : plainS t (pk t p) ((p + 1, false), ns) = addS { kind := 1, its := [((nextS t (p + 1, false)).1, (nextS t (p + 1, false)).1)], size := 1 } ((nextS t (p + 1, false)).2, ns) := by
      unfold plainS; rw [if_neg c46, if_neg c94, if_neg c36, if_pos c92]; rfl
    have p2 : plainR t (pk t p) ((p + 1, false), ps) = pushP { kind := 1, ins := one (tkS t (p + 1, false)).1 } ((tkS t (p + 1, false)).2, ps) := by
      unfold plainR; rw [if_neg c91, if_neg c94, if_neg c36, if_neg c46, if_pos c92]
    rw [p1] at e1
    rw [p2] at e2
    have hs : Sync t (nextS t (p + 1, false)).2 (tkS t (p + 1, false)).2 := by
      by_cases hp2 : p + 1 < t.size
      · rw [next_lt (s := (p + 1, false)) hp2, tk_lt (s := (p + 1, false)) hp2]; exact Or.inr ⟨rfl, rfl⟩
      · rw [next_end (s := (p + 1, false)) hp2, tk_end (s := (p + 1, false)) hp2]; exact Sync.fail rfl
    have hsame : (tkS t (p + 1, false)).2.2 = false → (nextS t (p + 1, false)).1 = (tkS t (p + 1, false)).1 := fun hb => by
      by_cases hp2 : p + 1 < t.size
      · rw [next_lt (s := (p + 1, false)) hp2, tk_lt (s := (p + 1, false)) hp2]
      · rw [tk_end (s := (p + 1, false)) hp2] at hb; cases hb
    have hge := tk_ge (t := t) (s := (p + 1, false))
    have hft : (tkS t (p + 1, false)).2.1 ≤ t.size := fits_tk (s := (p + 1, false)) hp
    simp only [] at hge
    exact ⟨_, _, e1, e2, leaf_po hw hs rfl rfl (kindOne (Or.inl rfl) 0) (by omega) hft (fun hb => leaf_tie rfl rfl rfl (fun c hc => by rw [← hsame hb]; exact holds_one _ c)), fun _ => by simp only [pushP]; omega⟩
  · have p1 : plainS t (pk t p) ((p + 1, false), ns) = addS { kind := 1, its := [(pk t p, pk t p)], size := 1 } ((p + 1, false), ns) := by
      unfold plainS; rw [if_neg c46, if_neg c94, if_neg c36, if_neg c92, if_neg (by omega)]; rfl
    have p2 : plainR t (pk t p) ((p + 1, false), ps) = pushP { kind := 1, ins := one (pk t p) } ((p + 1, false), ps) := by
      unfold plainR; rw [if_neg c91, if_neg c94, if_neg c36, if_neg c46, if_neg c92]
    rw [p1] at e1
    rw [p2] at e2
    exact ⟨_, _, e1, e2, leaf_po hw good rfl rfl (kindOne (Or.inl rfl) 0) (by simp only []; omega) hp (fun _ => leaf_tie rfl rfl rfl (fun c hc => holds_one _ c)), fun _ => by simp only [pushP]; omega⟩

end Go.Proofs.Ytgifhgnccmnbiaa

set_option linter.unusedVariables false
set_option linter.unusedSimpArgs false
namespace Go.Proofs.Ytgifhgnccmnbiaa
open Go.RowKit Go.IntWalk

theorem repS_end {t : ByteArray} {b : Bool} : repS t (t.size, b) = false := by
  cases h : repS t (t.size, b) with
  | false => rfl
  | true => have := repS_lt h; simp at this
theorem endS_end {t : ByteArray} {b : Bool} : endS t (t.size, b) = true := by
  unfold endS; rw [pk_ge (p := t.size) (by omega)]; rfl
theorem end_more {t : ByteArray} {p : Nat} (hp : p ≤ t.size) : moreR t (p, false) = !endS t (p, false) := by
  unfold moreR endS
  simp only [stB, List.any_cons, List.any_nil, Bool.or_false]
  by_cases h : p < t.size
  · have e : (pk t p == -1) = false := by have := pk_lt h; simp; omega
    rw [e, decide_eq_true h]
    simp
  · rw [decide_eq_false h, pk_ge h]
    simp
theorem more_bad {t : ByteArray} {s : RS} (h : s.2 = true) : moreR t s = false := by unfold moreR; rw [h]; simp

theorem times_eq {x : PN} {n : Int} (hk : x.kind = 6) (hm : -1 ≤ x.most) : sizeK x n = if 1 < timesS x.least x.most then wrap64 (n * timesS x.least x.most) else n := by
  have e : sizeK x n = if 1 < x.most then wrap64 (n * x.most) else if x.most < 0 ∧ 1 < x.least then wrap64 (n * x.least) else n := by
    unfold sizeK; rw [if_neg (by omega), if_neg (by omega), if_pos hk]
  rw [e]
  by_cases h1 : x.most = -1
  · have ht : timesS x.least x.most = if x.least < 1 then 1 else x.least := by unfold timesS; rw [if_pos h1]
    rw [if_neg (by omega)]
    by_cases h2 : 1 < x.least
    · rw [if_neg (by omega)] at ht
      rw [if_pos ⟨by omega, h2⟩, ht, if_pos h2]
    · rw [if_neg (by omega), if_neg ?_]
      rw [ht]; split <;> omega
  · have ht : timesS x.least x.most = if x.most < 1 then 1 else x.most := by unfold timesS; rw [if_neg h1]
    by_cases h2 : 1 < x.most
    · rw [if_neg (by omega)] at ht
      rw [if_pos h2, ht, if_pos h2]
    · rw [if_neg h2, if_neg (by omega), if_neg ?_]
      rw [ht]; split <;> omega

theorem times_bd {a b : Int} (ha : a ≤ 9) (hb : b ≤ 9) : 1 ≤ timesS a b ∧ timesS a b ≤ 9 := by
  unfold timesS
  repeat' split
  all_goals omega

theorem braces_cost {t : ByteArray} {p : Nat} (h : (bracesS t (p, false)).2.2 = false) : p + 2 ≤ (bracesS t (p, false)).2.1 := by
  unfold bracesS at h ⊢
  by_cases hc : (takeS t 125 (mostS t (p, false)).2).1 = false ∨ ((mostS t (p, false)).1 ≠ -1 ∧ (mostS t (p, false)).1 < (digS t (p, false)).1)
  · rw [if_pos hc] at h; cases h
  · rw [if_neg hc] at h ⊢
    have hcl : (takeS t 125 (mostS t (p, false)).2).1 = true := by
      cases hx : (takeS t 125 (mostS t (p, false)).2).1 with
      | true => rfl
      | false => exact absurd (Or.inl hx) hc
    have h1 := take_gt hcl
    by_cases hd : p < t.size ∧ 48 ≤ pk t p ∧ pk t p ≤ 57
    · have eD := dig_good hd.1 hd.2.1 hd.2.2
      have hm : p + 1 ≤ (mostS t (p, false)).2.1 := by
        unfold mostS
        rw [eD]
        have h3 := take_ge (t := t) (c := 44) (s := (p + 1, false))
        have h4 := fits_take (t := t) (c := 44) (s := (p + 1, false)) (by omega) hd.1
        split
        · exact Nat.le_trans h3 (up_ge h4)
        · exact h3
      simp only []
      omega
    · have eD := dig_bad (t := t) (s := (p, false)) hd
      have eM : (mostS t (p, false)).2 = failS t := by
        unfold mostS; rw [eD]; simp only []; rw [take_fail (by omega)]; simp
      rw [eM, take_fail (by omega)] at hcl
      cases hcl
theorem rep_cost {t : ByteArray} {p : Nat} (hr : repS t (p, false) = true) (h : (repeatS t (p, false)).2.2 = false) :
    (timesS (repeatS t (p, false)).1.1 (repeatS t (p, false)).1.2 = 1 ∧ p + 1 ≤ (repeatS t (p, false)).2.1) ∨ p + 3 ≤ (repeatS t (p, false)).2.1 := by
  have hp := repS_lt hr
  have e1 := next_lt (s := (p, false)) hp
  unfold repeatS at h ⊢
  rw [e1] at h ⊢
  simp only [] at h ⊢
  by_cases h1 : pk t p = 42
  · rw [if_pos h1]; left; exact ⟨rfl, Nat.le_refl _⟩
  rw [if_neg h1] at h ⊢
  by_cases h2 : pk t p = 43
  · rw [if_pos h2]; left; exact ⟨rfl, Nat.le_refl _⟩
  rw [if_neg h2] at h ⊢
  by_cases h3 : pk t p = 63
  · rw [if_pos h3]; left; exact ⟨rfl, Nat.le_refl _⟩
  rw [if_neg h3] at h ⊢
  right
  have := braces_cost h
  omega

theorem Bd.nine {k : Int} (h1 : 1 ≤ k) (h9 : k ≤ 9) : Bd k 3 := by
  refine ⟨h1, ?_⟩
  have e2 : (2 : Int) ^ 3 = 8 := by decide
  have e5 : (5 : Int) ^ 3 = 125 := by decide
  rw [e2, e5]; omega

theorem bndR_fits {t : ByteArray} {s : RS} (h : s.1 ≤ t.size) : (bndR t s).2.1 ≤ t.size := by
  have f1 := fits_tk (t := t) (s := s) h
  have f2 := fits_take (t := t) (c := 44) (by omega) f1
  have f3 := fits_take (t := t) (c := 125) (by omega) f2
  have f4 := fits_tk f3
  have f5 := fits_take (t := t) (c := 125) (by omega) f4
  simp only [Fits] at f1 f2 f3 f4 f5
  have hm : (bndMost t s).2.2.1 ≤ t.size := by
    unfold bndMost
    simp only []
    split
    · exact f3
    · split
      · simp only []; split
        · exact f5
        · exact f5
      · exact f3
  unfold bndR
  simp only []
  split
  · exact hm
  · exact hm
theorem repR_fits {t : ByteArray} {s : RS} (h : s.1 ≤ t.size) : (repR t s).2.1 ≤ t.size := by
  have f1 := fits_tk (t := t) (s := s) h
  unfold repR
  repeat' split
  all_goals first | exact f1 | exact bndR_fits f1

/-- What may follow an atom. -/
theorem rep_sync {t : ByteArray} (hsm : t.size ≤ 40) {p : Nat} {ns : List AN} {ps : List PN} : ∀ (n : Nat) (r1 : Nat × PS) (q1 : Nat × RP), t.size - q1.2.1.1 ≤ n → PO t p ns ps r1 q1 → (q1.2.1.2 = false → p < q1.2.1.1) →
    ∃ r q, Ev t 6 r1.1 r1.2 r ∧ EvR t 4 [q1.1] q1.2 q ∧ PO t p ns ps r q ∧ (q.2.1.2 = false → p < q.2.1.1)
  | n, r1, q1, hn, h, hgt => by
    cases hb : q1.2.1.2 with
    | true =>
      have e1 := sync_bad h.sync hb
      exact ⟨r1, q1, Ev.repEnd (st := r1.2) (by rw [e1]; exact repS_end), EvR.repEnd (st := q1.2) (Or.inl hb), h, hgt⟩
    | false =>
      have e1 := sync_good h.sync hb
      have hsz := h.sz hb
      have hgt1 := hgt hb
      obtain ⟨i, ⟨sa, nsa⟩⟩ := r1
      obtain ⟨j, ⟨⟨pb, bb⟩, psb⟩⟩ := q1
      simp only [] at hb e1 hsz hgt1 hn
      subst hb e1
      cases hr : repS t (pb, false) with
      | false => exact ⟨_, _, Ev.repEnd (st := ((pb, false), nsa)) hr, EvR.repEnd (st := ((pb, false), psb)) (Or.inr (by rw [st4]; exact hr)), h, hgt⟩
      | true =>
        have hlt := repS_lt hr
        obtain ⟨more, hen⟩ := h.en
        obtain ⟨more2, hep⟩ := h.ep
        simp only [] at hen hep
        have hkk : ∀ k, k ∈ [j] → k < psb.length := fun k hk => by simp at hk; subst hk; exact hsz.2.1
        rcases sync_repeat hr with ⟨g1, g2⟩ | ⟨g1, g2⟩
        · have eA := Ev.rep (t := t) (cur := i) (st := ((pb, false), nsa)) hr (Ev.repEnd (st := (againS i (repeatS t (pb, false)).1 ((repeatS t (pb, false)).2, nsa)).2) (by show repS t (repeatS t (pb, false)).2 = false; rw [g1]; exact repS_end))
          have eB := EvR.rep (t := t) (x := j) (st := ((pb, false), psb)) rfl (by rw [st4]; exact hr) (EvR.repEnd (st := ((repR t (pb, false)).2, psb ++ [{ kind := 6, kids := [j], least := (repR t (pb, false)).1.1, most := (repR t (pb, false)).1.2 }])) (Or.inl g2))
          refine ⟨_, _, eA, eB, ⟨Or.inl ⟨g1, g2⟩, ⟨more ++ [_], by show nsa ++ [_] = _; rw [hen, List.append_assoc]⟩, ⟨more2 ++ [_], by show psb ++ [_] = _; rw [hep, List.append_assoc]⟩, WfP.push h.wf hkk, ?_, ?_, by simp [pushP], fun hc => ?_⟩, fun hc => ?_⟩
          · show p ≤ (repR t (pb, false)).2.1
            have h1 : pb ≤ (repR t (pb, false)).2.1 := by
              unfold repR
              have := tk_ge (t := t) (s := (pb, false))
              repeat' split
              all_goals first | exact this | exact Nat.le_trans this bndR_ge
            have := h.ge; simp only [] at this; omega
          · show (repR t (pb, false)).2.1 ≤ t.size
            exact repR_fits (Nat.le_of_lt hlt)
          · have hc : (repR t (pb, false)).2.2 = false := hc
            rw [g2] at hc; cases hc
          · have hc : (repR t (pb, false)).2.2 = false := hc
            rw [g2] at hc; cases hc
        · have hcost := rep_cost hr g2
          have hord := rep_order hr g2
          obtain ⟨l0, l9, m0, m9⟩ := repeat_bd t (pb, false)
          have hfit2 := fits_repeat (t := t) (s := (pb, false)) (Nat.le_of_lt hlt)
          generalize hR : repeatS t (pb, false) = R at *
          obtain ⟨⟨least, most⟩, ⟨p2, b2⟩⟩ := R
          simp only [Fits] at g2 hcost l0 l9 m0 m9 hfit2 hord
          subst g2
          obtain ⟨t1, t9⟩ := times_bd (a := least) (b := most) l9 m9
          have hTn : T (psb ++ [{ kind := 6, kids := [j], least := least, most := most }]) psb.length = T psb j * timesS least most := by
            rw [T_new h.wf hkk]
            have hs1 : sumT psb [j] = T psb j := by
              have hsmall := hsz.2.2.2.1.small (by have := h.fit; simp only [] at this; omega)
              have := hsz.2.2.2.1.1
              show wrap64 (0 + T psb j) = _
              rw [Int.zero_add]
              exact wrap64_in _ (by omega)
            rw [times_eq rfl m0, hs1]
            simp only []
            split
            · have hprod : Bd (T psb j * timesS least most) (pb - p + 3) := hsz.2.2.2.1.mul (Bd.nine t1 t9)
              have hb2 := hprod.1
              have h40 : T psb j * timesS least most ≤ 74446255130 * 1000000 := by
                have hsmall := hsz.2.2.2.1.small (by have := h.fit; simp only [] at this; omega)
                have h2 := Int.mul_le_mul hsmall t9 (by omega) (by omega)
                omega
              exact wrap64_in _ (by omega)
            · have : timesS least most = 1 := by omega
              rw [this, Int.mul_one]
          have hbd : Bd (T psb j * timesS least most) (p2 - p) := by
            rcases hcost with ⟨k1, k2⟩ | k2
            · rw [k1, Int.mul_one]
              have := hsz.2.2.2.1.more (c := p2 - pb)
              rwa [show pb - p + (p2 - pb) = p2 - p by omega] at this
            · have := (hsz.2.2.2.1.mul (Bd.nine t1 t9)).more (c := p2 - (pb + 3))
              rwa [show pb - p + 3 + (p2 - (pb + 3)) = p2 - p by omega] at this
          have po2 : PO t p ns ps (againS i (least, most) ((p2, false), nsa)) (pushP { kind := 6, kids := [j], least := least, most := most } ((p2, false), psb)) := by
            refine ⟨Or.inr ⟨rfl, rfl⟩, ⟨more ++ [_], by show nsa ++ [_] = _; rw [hen, List.append_assoc]⟩, ⟨more2 ++ [_], by show psb ++ [_] = _; rw [hep, List.append_assoc]⟩, WfP.push h.wf hkk, by show p ≤ p2; omega, hfit2, by simp [pushP], fun _ => ⟨by simp [againS, addS], by simp [pushP], ?_, ?_, Same.times hsz.2.2.2.2 rfl rfl rfl rfl rfl rfl l0 l9 m0 m9 hord⟩⟩
            · show sizeAt (nsa ++ [capN _]) nsa.length = cap61 (T (psb ++ [_]) psb.length)
              rw [sizeAt_new, hTn]
              show cap61 (sizeAt nsa i * timesS least most) = _
              rw [hsz.2.2.1, cap_mul _ _ hsz.2.2.2.1.1 t1]
            · show Bd (T (psb ++ [_]) psb.length) (p2 - p)
              rw [hTn]; exact hbd
          match n, hn with
          | 0, hn => omega
          | n + 1, hn =>
            obtain ⟨r, q, a1, a2, a3, a4⟩ := rep_sync hsm n _ _ (by show t.size - p2 ≤ n; omega) po2 (fun _ => by show p < p2; omega)
            refine ⟨r, q, Ev.rep (st := ((pb, false), nsa)) hr (by rw [hR]; exact a1), EvR.rep (st := ((pb, false), psb)) rfl (by rw [st4]; exact hr) ?_, a3, a4⟩
            rw [← g1]; exact a2

end Go.Proofs.Ytgifhgnccmnbiaa

set_option linter.unusedVariables false
set_option linter.unusedSimpArgs false
namespace Go.Proofs.Ytgifhgnccmnbiaa
open Go.RowKit Go.IntWalk

theorem piece_sync {t : ByteArray} (hsm : t.size ≤ 40) {m p : Nat} {ns : List AN} {ps : List PN} (H : PatS t m) (hw : WfP ps) (hp : p < t.size) (he : endS t (p, false) = false) (hm : t.size - p ≤ m) :
    ∃ r q, Ev t 2 0 ((p, false), ns) r ∧ EvR t 2 [] ((p, false), ps) q ∧ PO t p ns ps r q ∧ (q.2.1.2 = false → p < q.2.1.1) := by
  simp only [endS, Bool.or_eq_false_iff, beq_eq_false_iff_ne] at he
  obtain ⟨r1, q1, a1, a2, a3, a4⟩ := atom_sync (ns := ns) H hw hp he.1.2 he.2 hm
  obtain ⟨r, q, b1, b2, b3, b4⟩ := rep_sync hsm _ r1 q1 (Nat.le_refl _) a3 a4
  exact ⟨r, q, Ev.piece a1 b1, EvR.piece a2 b2, b3, b4⟩

/-- A row or a choice that is being gathered: the one number on the one side, the list on the other. -/
structure RO (t : ByteArray) (p : Nat) (ns : List AN) (ps : List PN) (kind : Int) (i : Nat) (nsb : List AN) (l : List Nat) (psb : List PN) (d : Nat) : Prop where
  en : ∃ more, nsb = ns ++ more
  ep : ∃ more, psb = ps ++ more
  wf : WfP psb
  kids : ∀ k, k ∈ l → k < psb.length
  idx : i < nsb.length
  sz : sizeAt nsb i = cap61 (sumT psb l)
  bd : Bd (sumT psb l) d
  sm : SameL kind nsb i psb l

theorem sum_one {ps : List PN} {j d : Nat} (h : Bd (T ps j) d) (hd : d ≤ 40) : sumT ps [j] = T ps j := by
  have hs := h.small hd
  have := h.1
  show wrap64 (0 + T ps j) = _
  rw [Int.zero_add]
  exact wrap64_in _ (by omega)

theorem RO.one {kind : Int} {t : ByteArray} {p p0 : Nat} {ns0 ns : List AN} {ps0 ps : List PN} {r : Nat × PS} {q : Nat × RP} (h : PO t p ns ps r q) (hb : q.2.1.2 = false) (hd : q.2.1.1 - p ≤ 40) (hn : ∃ more, ns = ns0 ++ more) (hq : ∃ more, ps = ps0 ++ more) :
    RO t p0 ns0 ps0 kind r.1 r.2.2 [q.1] q.2.2 (q.2.1.1 - p) := by
  have hs := h.sz hb
  have e := sum_one hs.2.2.2.1 hd
  refine ⟨?_, ?_, h.wf, fun k hk => by simp at hk; subst hk; exact hs.2.1, hs.1, by rw [e]; exact hs.2.2.1, by rw [e]; exact hs.2.2.2.1, SameL.one hs.2.2.2.2⟩
  · obtain ⟨a, ha⟩ := h.en; obtain ⟨c, hc⟩ := hn; exact ⟨c ++ a, by rw [ha, hc, List.append_assoc]⟩
  · obtain ⟨a, ha⟩ := h.ep; obtain ⟨c, hc⟩ := hq; exact ⟨c ++ a, by rw [ha, hc, List.append_assoc]⟩

/-- One more. -/
theorem RO.next {t : ByteArray} {p p4 i d : Nat} {ns nsb : List AN} {ps psb : List PN} {l : List Nat} {r : Nat × PS} {q : Nat × RP} (kind : Int) (hkd : kind = 4 ∨ kind = 5) (h : RO t p ns ps kind i nsb l psb d) (po : PO t p4 nsb psb r q) (hb : q.2.1.2 = false) (s : RS)
    (d2 : Nat) (hd2 : d2 ≤ 40) (hbd : Bd (sumT psb l + T q.2.2 q.1) d2) :
    RO t p ns ps kind (joinS kind i r.1 (s, r.2.2)).1 (joinS kind i r.1 (s, r.2.2)).2.2 (l ++ [q.1]) q.2.2 d2 := by
  have hs := po.sz hb
  obtain ⟨an, hn⟩ := po.en
  obtain ⟨ap, hp⟩ := po.ep
  have hsum : sumT q.2.2 l = sumT psb l := by rw [hp]; exact sumT_app h.wf h.kids
  have hsm := hbd.small hd2
  have h1 := h.bd.1
  have h2 := hs.2.2.2.1.1
  have e : sumT q.2.2 (l ++ [q.1]) = sumT psb l + T q.2.2 q.1 := by
    rw [sumT_snoc, hsum]; exact wrap64_in _ (by omega)
  refine ⟨?_, ?_, po.wf, ?_, by simp [joinS, addS], ?_, by rw [e]; exact hbd, ?_⟩
  · obtain ⟨c, hc⟩ := h.en; exact ⟨c ++ an ++ [_], by show r.2.2 ++ [_] = _; rw [hn, hc]; simp [List.append_assoc]; rfl⟩
  · obtain ⟨c, hc⟩ := h.ep; exact ⟨c ++ ap, by rw [hp, hc, List.append_assoc]⟩
  · intro k hk
    rcases List.mem_append.1 hk with hk | hk
    · have := h.kids k hk; rw [hp]; simp; omega
    · simp at hk; subst hk; exact hs.2.1
  · show sizeAt (r.2.2 ++ [capN _]) r.2.2.length = _
    rw [sizeAt_new, e]
    show cap61 (sizeAt r.2.2 i + sizeAt r.2.2 r.1) = _
    rw [hs.2.2.1, show sizeAt r.2.2 i = cap61 (sumT psb l) by rw [hn, sizeAt_app h.idx, h.sz], cap_add _ _ h1 h2]
  · have h0 := h.sm.app an ap
    rw [← hn, ← hp] at h0
    exact SameL.next hkd h0 hs.2.2.2.2 rfl rfl rfl

/-- The list is whole. -/
theorem RO.fin {t : ByteArray} {p i d : Nat} {ns nsb : List AN} {ps psb : List PN} {l : List Nat} (kind : Int) (h : RO t p ns ps kind i nsb l psb d) (hk : kind = 4 ∨ kind = 5) (s : RS) (hs : s.2 = false) (hd : d = s.1 - p) (hge : p ≤ s.1) (hfit : s.1 ≤ t.size) :
    PO t p ns ps (i, (s, nsb)) (pushP { kind := kind, kids := l } (s, psb)) := by
  have eT : T (psb ++ [{ kind := kind, kids := l }]) psb.length = sumT psb l := by
    rw [T_new h.wf h.kids]
    have h1 := h.bd.1
    rcases hk with rfl | rfl
    · show sizeK { kind := 4, kids := l } (sumT psb l) = _
      unfold sizeK; rw [if_neg (by simp), if_pos rfl, if_neg (by omega)]
    · show sizeK { kind := 5, kids := l } (sumT psb l) = _
      unfold sizeK; rw [if_neg (by simp), if_neg (by simp), if_neg (by simp)]
  refine ⟨Or.inr ⟨rfl, hs⟩, h.en, ?_, WfP.push h.wf h.kids, hge, hfit, by simp [pushP], fun _ => ⟨h.idx, by simp [pushP], ?_, ?_, SameL.fin hk h.sm rfl rfl⟩⟩
  · obtain ⟨c, hc⟩ := h.ep; exact ⟨c ++ [_], by show psb ++ [_] = _; rw [hc, List.append_assoc]⟩
  · show sizeAt nsb i = cap61 (T (psb ++ [_]) psb.length)
    rw [eT]; exact h.sz
  · show Bd (T (psb ++ [_]) psb.length) (s.1 - p)
    rw [eT, ← hd]; exact h.bd
/-- It has failed. -/
theorem bad_po {t : ByteArray} {p p4 : Nat} {ns nsb : List AN} {ps psb : List PN} {l : List Nat} {r : Nat × PS} {q : Nat × RP} (po : PO t p4 nsb psb r q) (hn : ∃ more, nsb = ns ++ more) (hq : ∃ more, psb = ps ++ more) (hb : q.2.1.2 = true) (hge : p ≤ p4)
    (kind : Int) (hl : ∀ k, k ∈ l → k < q.2.2.length) (s2 : RS) (h2 : s2.2 = true) (hs1 : q.2.1.1 ≤ s2.1) (hs2 : s2.1 ≤ t.size) (r' : Nat × PS) (h1 : r'.2.1 = (t.size, true)) (h3 : ∃ more, r'.2.2 = r.2.2 ++ more) :
    PO t p ns ps r' (pushP { kind := kind, kids := l } (s2, q.2.2)) := by
  refine ⟨Or.inl ⟨h1, h2⟩, ?_, ?_, WfP.push po.wf hl, ?_, hs2, by simp [pushP], fun hc => ?_⟩
  · obtain ⟨a, ha⟩ := po.en; obtain ⟨c, hc⟩ := hn; obtain ⟨e, he⟩ := h3
    exact ⟨c ++ a ++ e, by rw [he, ha, hc]; simp [List.append_assoc]⟩
  · obtain ⟨a, ha⟩ := po.ep; obtain ⟨c, hc⟩ := hq
    exact ⟨c ++ a ++ [_], by show q.2.2 ++ [_] = _; rw [ha, hc]; simp [List.append_assoc]; rfl⟩
  · have := po.ge; show p ≤ s2.1; omega
  · have hc : s2.2 = false := hc
    rw [h2] at hc; cases hc

/-- What may follow a piece in its branch. -/
theorem and_sync {t : ByteArray} (hsm : t.size ≤ 40) {m p : Nat} {ns : List AN} {ps : List PN} (H : PatS t m) (hpm : t.size - p ≤ m) : ∀ (n i : Nat) (p1 : Nat) (nsb : List AN) (l : List Nat) (psb : List PN), t.size - p1 ≤ n → RO t p ns ps 4 i nsb l psb (p1 - p) → p < p1 → p1 ≤ t.size →
    ∃ r q, Ev t 5 i ((p1, false), nsb) r ∧ EvR t 1 l ((p1, false), psb) q ∧ PO t p ns ps r q
  | n, i, p1, nsb, l, psb, hn, h, hlt, hfit => by
    have hmo := end_more (t := t) (p := p1) hfit
    cases he : endS t (p1, false) with
    | true =>
      rw [he] at hmo
      exact ⟨_, _, Ev.andEnd (st := ((p1, false), nsb)) he, EvR.branchEnd (st := ((p1, false), psb)) hmo, h.fin 4 (Or.inl rfl) _ rfl rfl (by show p ≤ p1; omega) hfit⟩
    | false =>
      rw [he] at hmo
      have hp1 := endS_lt he
      obtain ⟨r4, q4, a1, a2, a3, a4⟩ := piece_sync (ns := nsb) hsm H h.wf hp1 he (by simp only [] at hp1 ⊢; omega)
      cases hb : q4.2.1.2 with
      | true =>
        have e1 := sync_bad a3.sync hb
        refine ⟨joinS 4 i r4.1 r4.2, _, Ev.and (st := ((p1, false), nsb)) he a1 (Ev.andEnd (by show endS t r4.2.1 = true; rw [e1]; exact endS_end)), EvR.branchOn (st := ((p1, false), psb)) hmo a2 (EvR.branchEnd (more_bad hb)), ?_⟩
        have hk4 : ∀ k, k ∈ l ++ [q4.1] → k < q4.2.2.length := by
          intro k hk
          rcases List.mem_append.1 hk with hk | hk
          · have := h.kids k hk
            obtain ⟨ap, hp⟩ := a3.ep
            rw [hp]; simp; omega
          · simp at hk; subst hk; exact a3.jdx
        exact bad_po (p := p) a3 h.en h.ep hb (by omega) 4 hk4 q4.2.1 hb (Nat.le_refl _) a3.fit _ e1 ⟨_, rfl⟩
      | false =>
        have e1 := sync_good a3.sync hb
        have hs := a3.sz hb
        have hgt := a4 hb
        have hfit4 := a3.fit
        have hro := h.next 4 (Or.inl rfl) a3 hb r4.2.1 (q4.2.1.1 - p) (by omega) (by
          have := h.bd.add hs.2.2.2.1 (by omega) (by omega)
          rwa [show p1 - p + (q4.2.1.1 - p1) = q4.2.1.1 - p by omega] at this)
        obtain ⟨⟨p2, b2⟩, hq2⟩ : ∃ s, q4.2.1 = s := ⟨_, rfl⟩
        rw [hq2] at e1 hb hgt hfit4 hro
        simp only [] at hb hgt hfit4 hro
        subst hb
        match n, hn with
        | 0, hn => simp only [] at hp1; omega
        | n + 1, hn =>
          obtain ⟨r, q, b1, b2, b3⟩ := and_sync hsm H hpm n _ p2 _ _ _ (by omega) hro (by omega) hfit4
          refine ⟨r, q, Ev.and (st := ((p1, false), nsb)) he a1 ?_, EvR.branchOn (st := ((p1, false), psb)) hmo a2 ?_, b3⟩
          · show Ev t 5 (joinS 4 i r4.1 r4.2).1 (joinS 4 i r4.1 r4.2).2 r
            have : (joinS 4 i r4.1 r4.2).2 = ((p2, false), (joinS 4 i r4.1 (r4.2.1, r4.2.2)).2.2) := by
              show (r4.2.1, _) = _
              rw [e1]; rfl
            rw [this]; exact b1
          · have : q4.2 = ((p2, false), q4.2.2) := by rw [← hq2]
            rw [this]; exact b2

theorem branch_sync {t : ByteArray} (hsm : t.size ≤ 40) {m p : Nat} {ns : List AN} {ps : List PN} (H : PatS t m) (hw : WfP ps) (hp : p ≤ t.size) (hpm : t.size - p ≤ m) :
    ∃ r q, Ev t 1 0 ((p, false), ns) r ∧ EvR t 1 [] ((p, false), ps) q ∧ PO t p ns ps r q := by
  have hmo := end_more (t := t) (p := p) hp
  cases he : endS t (p, false) with
  | true =>
    rw [he] at hmo
    exact ⟨_, _, Ev.empty (st := ((p, false), ns)) he, EvR.branchEnd (cur := []) (st := ((p, false), ps)) hmo, leaf_po hw (Or.inr ⟨rfl, rfl⟩) rfl rfl rfl (Nat.le_refl _) hp (fun _ => Or.inr (Or.inr (Or.inr ⟨rfl, rfl, rfl⟩)))⟩
  | false =>
    rw [he] at hmo
    have hp1 := endS_lt he
    simp only [] at hp1
    obtain ⟨r1, q1, a1, a2, a3, a4⟩ := piece_sync (ns := ns) hsm H hw hp1 he hpm
    cases hb : q1.2.1.2 with
    | true =>
      have e1 := sync_bad a3.sync hb
      refine ⟨r1, _, Ev.branch (st := ((p, false), ns)) he a1 (Ev.andEnd (by rw [e1]; exact endS_end)), EvR.branchOn (st := ((p, false), ps)) hmo a2 (EvR.branchEnd (more_bad hb)), ?_⟩
      exact bad_po (p := p) a3 ⟨[], by simp⟩ ⟨[], by simp⟩ hb (Nat.le_refl _) 4 (fun k hk => by simp at hk; subst hk; exact a3.jdx) q1.2.1 hb (Nat.le_refl _) a3.fit _ e1 ⟨[], by simp⟩
    | false =>
      have e1 := sync_good a3.sync hb
      have hgt := a4 hb
      have hfit1 := a3.fit
      have hro : RO t p ns ps 4 r1.1 r1.2.2 [q1.1] q1.2.2 (q1.2.1.1 - p) := RO.one a3 hb (by omega) ⟨[], by simp⟩ ⟨[], by simp⟩
      obtain ⟨⟨p2, b2⟩, hq2⟩ : ∃ s, q1.2.1 = s := ⟨_, rfl⟩
      rw [hq2] at e1 hb hgt hfit1 hro
      simp only [] at hb hgt hfit1 hro
      subst hb
      obtain ⟨r, q, b1, b2, b3⟩ := and_sync hsm H hpm _ _ p2 _ _ _ (Nat.le_refl _) hro hgt hfit1
      refine ⟨r, q, Ev.branch (st := ((p, false), ns)) he a1 ?_, EvR.branchOn (st := ((p, false), ps)) hmo a2 ?_, b3⟩
      · have : r1.2 = ((p2, false), r1.2.2) := by rw [← e1]
        rw [this]; exact b1
      · have : q1.2 = ((p2, false), q1.2.2) := by rw [← hq2]
        rw [this]; exact b2

theorem take_end {t : ByteArray} {c : Int} (hc : 0 ≤ c) {b : Bool} : takeS t c (t.size, b) = (false, (t.size, b)) := take_miss (s := (t.size, b)) (by rw [pk_ge (p := t.size) (by omega)]; omega)

/-- What may follow a | in its pattern. -/
theorem or_sync {t : ByteArray} (hsm : t.size ≤ 40) {m p : Nat} {ns : List AN} {ps : List PN} (H : PatS t m) (hpm : t.size - p ≤ m) : ∀ (n i : Nat) (p1 : Nat) (nsb : List AN) (l : List Nat) (psb : List PN), t.size - p1 ≤ n → RO t p ns ps 5 i nsb l psb (p1 - 1 - p) → p < p1 → p1 ≤ t.size →
    ∃ r q, (∀ s0, takeS t 124 s0 = (true, (p1, false)) → Ev t 4 i (s0, nsb) r) ∧ EvR t 0 l ((p1, false), psb) q ∧ PO t p ns ps r q
  | n, i, p1, nsb, l, psb, hn, h, hlt, hfit => by
    obtain ⟨r4, q4, a1, a2, a3⟩ := branch_sync (ns := nsb) hsm H h.wf hfit (by omega)
    have hk4 : ∀ k, k ∈ l ++ [q4.1] → k < q4.2.2.length := by
      intro k hk
      rcases List.mem_append.1 hk with hk | hk
      · have := h.kids k hk
        obtain ⟨ap, hp⟩ := a3.ep
        rw [hp]; simp; omega
      · simp at hk; subst hk; exact a3.jdx
    have hevOr : ∀ r, Ev t 4 (joinS 5 i r4.1 r4.2).1 (joinS 5 i r4.1 r4.2).2 r → ∀ s0, takeS t 124 s0 = (true, (p1, false)) → Ev t 4 i (s0, nsb) r := fun r hr s0 hs0 =>
      Ev.or (st := (s0, nsb)) (r1 := r4) (by rw [hs0]) (by rw [hs0]; exact a1) hr
    cases hb : q4.2.1.2 with
    | true =>
      have e1 := sync_bad a3.sync hb
      refine ⟨joinS 5 i r4.1 r4.2, _, hevOr _ (Ev.orEnd (by show (takeS t 124 r4.2.1).1 = false; rw [e1, take_end (by omega)])), EvR.choiceEnd (st := ((p1, false), psb)) a2 (Or.inr (take_bad hb)), ?_⟩
      exact bad_po (p := p) a3 h.en h.ep hb (by omega) 5 hk4 (takeS t 124 q4.2.1).2 (take_bad hb) take_ge (take_le (by omega) a3.fit) _ e1 ⟨_, rfl⟩
    | false =>
      have e1 := sync_good a3.sync hb
      have hs := a3.sz hb
      have hge := a3.ge
      have hfit4 := a3.fit
      have hro := h.next 5 (Or.inr rfl) a3 hb r4.2.1 (q4.2.1.1 - p) (by omega) (by
        have := h.bd.or hs.2.2.2.1
        rwa [show p1 - 1 - p + (q4.2.1.1 - p1) + 1 = q4.2.1.1 - p by omega] at this)
      obtain ⟨⟨p2, b2⟩, hq2⟩ : ∃ s, q4.2.1 = s := ⟨_, rfl⟩
      rw [hq2] at e1 hb hge hfit4 hro
      simp only [] at hb hge hfit4 hro
      subst hb
      by_cases hc : pk t p2 = 124
      · have et := take_hit (t := t) (s := (p2, false)) hc
        have hp2 : p2 < t.size := pk_some (by omega)
        match n, hn with
        | 0, hn => omega
        | n + 1, hn =>
          obtain ⟨r, q, b1, b2, b3⟩ := or_sync hsm H hpm n _ (p2 + 1) _ _ _ (by omega) (by rwa [show p2 + 1 - 1 - p = p2 - p by omega]) (by omega) hp2
          refine ⟨r, q, hevOr r ?_, EvR.choiceOn (st := ((p1, false), psb)) a2 (by rw [hq2, et]; simp) (by rw [hq2, et]; exact b2), b3⟩
          have : (joinS 5 i r4.1 r4.2).2 = ((p2, false), (joinS 5 i r4.1 (r4.2.1, r4.2.2)).2.2) := by
            show (r4.2.1, _) = _
            rw [e1]; rfl
          rw [this]
          exact b1 (p2, false) et
      · have et := take_miss (t := t) (s := (p2, false)) hc
        refine ⟨joinS 5 i r4.1 r4.2, _, hevOr _ (Ev.orEnd (by show (takeS t 124 r4.2.1).1 = false; rw [e1, et])), EvR.choiceEnd (st := ((p1, false), psb)) a2 (by rw [hq2, et]; simp), ?_⟩
        have hfin := hro.fin 5 (Or.inr rfl) (p2, false) rfl rfl (by show p ≤ p2; omega) hfit4
        rw [hq2, et]
        have : joinS 5 i r4.1 r4.2 = ((joinS 5 i r4.1 (r4.2.1, r4.2.2)).1, ((p2, false), (joinS 5 i r4.1 (r4.2.1, r4.2.2)).2.2)) := by
          show (_, (r4.2.1, _)) = _
          rw [e1]; rfl
        rw [this]
        exact hfin

theorem pat_step {t : ByteArray} (hsm : t.size ≤ 40) {m : Nat} (H : PatS t m) : PatS t (m + 1) := by
  intro p ns ps hw hp hm
  obtain ⟨r1, q1, a1, a2, a3⟩ := branch_sync (ns := ns) hsm H hw hp (by omega)
  cases hb : q1.2.1.2 with
  | true =>
    have e1 := sync_bad a3.sync hb
    refine ⟨r1, _, Ev.pattern a1 (Ev.orEnd (by rw [e1, take_end (by omega)])), EvR.choiceEnd (cur := []) (st := ((p, false), ps)) a2 (Or.inr (take_bad hb)), ?_⟩
    exact bad_po (p := p) a3 ⟨[], by simp⟩ ⟨[], by simp⟩ hb (Nat.le_refl _) 5 (fun k hk => by simp at hk; subst hk; exact a3.jdx) (takeS t 124 q1.2.1).2 (take_bad hb) take_ge (take_le (by omega) a3.fit) _ e1 ⟨[], by simp⟩
  | false =>
    have e1 := sync_good a3.sync hb
    have hge := a3.ge
    have hfit1 := a3.fit
    have hro : RO t p ns ps 5 r1.1 r1.2.2 [q1.1] q1.2.2 (q1.2.1.1 - p) := RO.one a3 hb (by omega) ⟨[], by simp⟩ ⟨[], by simp⟩
    obtain ⟨⟨p2, b2⟩, hq2⟩ : ∃ s, q1.2.1 = s := ⟨_, rfl⟩
    rw [hq2] at e1 hb hge hfit1 hro
    simp only [] at hb hge hfit1 hro
    subst hb
    have er : r1.2 = ((p2, false), r1.2.2) := by rw [← e1]
    by_cases hc : pk t p2 = 124
    · have et := take_hit (t := t) (s := (p2, false)) hc
      have hp2 : p2 < t.size := pk_some (by omega)
      obtain ⟨r, q, b1, b2, b3⟩ := or_sync (p := p) (m := m) (ns := ns) (ps := ps) hsm H (by omega) _ _ (p2 + 1) _ _ _ (Nat.le_refl _) (by rwa [show p2 + 1 - 1 - p = p2 - p by omega]) (by omega) hp2
      refine ⟨r, q, Ev.pattern a1 (by rw [er]; exact b1 (p2, false) et), EvR.choiceOn (cur := []) (st := ((p, false), ps)) a2 (by rw [hq2, et]; simp) (by rw [hq2, et]; exact b2), b3⟩
    · have et := take_miss (t := t) (s := (p2, false)) hc
      refine ⟨r1, _, Ev.pattern a1 (Ev.orEnd (by rw [er, et])), EvR.choiceEnd (cur := []) (st := ((p, false), ps)) a2 (by rw [hq2, et]; simp), ?_⟩
      have hfin := hro.fin 5 (Or.inr rfl) (p2, false) rfl rfl (by show p ≤ p2; omega) hfit1
      rw [hq2, et]
      rw [show r1 = (r1.1, ((p2, false), r1.2.2)) by rw [← er]]
      exact hfin

theorem pat_any {t : ByteArray} (hsm : t.size ≤ 40) : ∀ m, PatS t m
  | 0 => fun _ _ _ _ _ h => by omega
  | m + 1 => pat_step hsm (pat_any hsm m)

theorem EvR.one {t : ByteArray} {tag : Nat} {cur : List Nat} {st : RP} {r r' : Nat × RP} (h : EvR t tag cur st r) (h' : EvR t tag cur st r') : r = r' := by
  obtain ⟨a, ha⟩ := h
  obtain ⟨c, hc⟩ := h'
  rw [← ha (a + c) (by omega), hc (a + c) (by omega)]

/-- BOTH SIDES TELL THE SAME OF A PATTERN. -/
theorem check_same {t : ByteArray} (hsm : t.size ≤ 40) {r : Nat × PS} {q : Nat × RP} (hr : Ev t 0 0 st0 r) (hq : EvR t 0 [] rp0 q) :
    (BadR t r ↔ BadT t q) ∧ (¬ BadT t q → sizeAt r.2.2 r.1 = cap61 (szT q)) ∧ WfP q.2.2 ∧ (¬ BadT t q → Same r.2.2 r.1 q.2.2 q.1) := by
  obtain ⟨r', q', h1, h2, po⟩ := pat_any hsm (t.size + 1) 0 [] [] (fun i p hp => by simp at hp) (Nat.zero_le _) (by omega)
  have er := hr.one h1
  have eq := hq.one h2
  subst er eq
  unfold BadR BadT
  cases hb : q.2.1.2 with
  | true =>
    have e1 := sync_bad po.sync hb
    rw [e1]
    exact ⟨by simp, fun h => (h (Or.inl rfl)).elim, po.wf, fun h => (h (Or.inl rfl)).elim⟩
  | false =>
    have e1 := sync_good po.sync hb
    rw [e1, hb]
    exact ⟨Iff.rfl, fun _ => (po.sz hb).2.2.1, po.wf, fun _ => (po.sz hb).2.2.2.2⟩

end Go.Proofs.Ytgifhgnccmnbiaa
