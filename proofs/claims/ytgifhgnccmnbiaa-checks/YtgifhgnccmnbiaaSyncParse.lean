/- Both readers side by side: whole patterns. No walk in it. -/
import Derived.Test.YtgifhgnccmnbiaaSyncSize
import Derived.Test.YtgifhgnccmnbiaaRefAtom
set_option linter.unusedVariables false
set_option linter.unusedSimpArgs false
namespace Go.Proofs.Ytgifhgnccmnbiaa
open Go.RowKit Go.IntWalk

def Sz (ns : List AN) (i : Nat) (ps : List PN) (j d : Nat) : Prop := i < ns.length ∧ j < ps.length ∧ sizeAt ns i = cap61 (T ps j) ∧ Bd (T ps j) d

structure PO (t : ByteArray) (p : Nat) (ns : List AN) (ps : List PN) (r : Nat × PS) (q : Nat × RP) : Prop where
  sync : Sync t r.2.1 q.2.1
  en : ∃ more, r.2.2 = ns ++ more
  ep : ∃ more, q.2.2 = ps ++ more
  wf : WfP q.2.2
  ge : p ≤ q.2.1.1
  fit : q.2.1.1 ≤ t.size
  jdx : q.1 < q.2.2.length
  sz : q.2.1.2 = false → Sz r.2.2 r.1 q.2.2 q.1 (q.2.1.1 - p)

theorem leaf_po {t : ByteArray} {p : Nat} {ns : List AN} {ps : List PN} {n : AN} {x : PN} {a b : RS} (hw : WfP ps) (hs : Sync t a b) (hn : n.size = 1) (hk : x.kids = []) (hx : sizeK x 0 = 1) (h1 : p ≤ b.1) (h2 : b.1 ≤ t.size) :
    PO t p ns ps (addS n (a, ns)) (pushP x (b, ps)) := by
  have hkk : ∀ k, k ∈ x.kids → k < ps.length := fun k hk' => by rw [hk] at hk'; cases hk'
  refine ⟨hs, ⟨_, rfl⟩, ⟨_, rfl⟩, hw.push hkk, h1, h2, by simp [pushP], fun _ => ⟨by simp [addS], by simp [pushP], ?_, ?_⟩⟩
  · show sizeAt (ns ++ [capN n]) ns.length = cap61 (T (ps ++ [x]) ps.length)
    rw [sizeAt_new, T_new hw hkk, hk, hn]
    show _ = cap61 (sizeK x 0)
    rw [hx]
  · show Bd (T (ps ++ [x]) ps.length) _
    rw [T_new hw hkk, hk]
    show Bd (sizeK x 0) _
    rw [hx]
    exact Bd.one _

theorem sync_good {t : ByteArray} {a b : RS} (h : Sync t a b) (hb : b.2 = false) : a = b := by
  rcases h with ⟨_, h⟩ | ⟨h, _⟩
  · rw [hb] at h; cases h
  · exact h
theorem sync_bad {t : ByteArray} {a b : RS} (h : Sync t a b) (hb : b.2 = true) : a = (t.size, true) := by
  rcases h with ⟨h, _⟩ | ⟨h, h2⟩
  · exact h
  · rw [h, hb] at h2; cases h2
theorem Sync.fail {t : ByteArray} {b : RS} (hb : b.2 = true) : Sync t (failS t) b := Or.inl ⟨rfl, hb⟩

theorem take_le {t : ByteArray} {c : Int} {s : RS} (hc : 0 ≤ c) (h : s.1 ≤ t.size) : (takeS t c s).2.1 ≤ t.size := fits_take (s := s) hc h

theorem close_po {t : ByteArray} {p : Nat} {ns : List AN} {ps : List PN} {r : Nat × PS} {q : Nat × RP} (h : PO t (p + 1) ns ps r q) (hp : p < t.size) :
    PO t p ns ps (closeS t r) (closeR t q) ∧ ((closeR t q).2.1.2 = false → p < (closeR t q).2.1.1) := by
  have hge := h.ge
  have hg2 := take_ge (t := t) (c := 41) (s := q.2.1)
  have hl2 := take_le (c := 41) (by omega) h.fit
  have hpos : (closeR t q).2.1.1 = (takeS t 41 q.2.1).2.1 := by unfold closeR; simp only []; split <;> rfl
  cases hb : q.2.1.2 with
  | true =>
    have e1 := sync_bad h.sync hb
    have hbad : (closeR t q).2.1.2 = true := by unfold closeR; simp only []; split; exact take_bad hb; rfl
    refine ⟨⟨Or.inl ⟨?_, hbad⟩, h.en, h.ep, h.wf, by rw [hpos]; omega, by rw [hpos]; exact hl2, h.jdx, fun hc => by rw [hbad] at hc; cases hc⟩, fun hc => by rw [hbad] at hc; cases hc⟩
    unfold closeS
    simp only []
    rw [e1, take_miss (s := (t.size, true)) (by rw [pk_ge (by omega)]; decide)]
    rfl
  | false =>
    have e1 := sync_good h.sync hb
    have hsz := h.sz hb
    by_cases hc : pk t q.2.1.1 = 41
    · have et := take_hit (t := t) (s := q.2.1) hc
      have eS : closeS t r = (r.1, ((q.2.1.1 + 1, q.2.1.2), r.2.2)) := by unfold closeS; rw [e1, et]; rfl
      have eR : closeR t q = (q.1, ((q.2.1.1 + 1, q.2.1.2), q.2.2)) := by unfold closeR; rw [et]; rfl
      rw [et] at hl2
      rw [eS, eR]
      refine ⟨⟨Or.inr ⟨rfl, hb⟩, h.en, h.ep, h.wf, by simp only []; omega, hl2, h.jdx, fun _ => ⟨hsz.1, hsz.2.1, hsz.2.2.1, ?_⟩⟩, fun _ => by simp only []; omega⟩
      have := hsz.2.2.2.more (c := 2)
      simp only []
      rwa [show q.2.1.1 - (p + 1) + 2 = q.2.1.1 + 1 - p by omega] at this
    · have et := take_miss (t := t) (s := q.2.1) hc
      have eS : closeS t r = (r.1, (failS t, r.2.2)) := by unfold closeS; rw [e1, et]; rfl
      have eR : closeR t q = (q.1, (markS q.2.1, q.2.2)) := by unfold closeR; rw [et]; rfl
      rw [eS, eR]
      exact ⟨⟨Sync.fail rfl, h.en, h.ep, h.wf, by simp only [markS]; omega, h.fit, h.jdx, fun hc => by cases hc⟩, fun hc => by cases hc⟩

/-- The claim for patterns, where fewer than m bytes are left. -/
def PatS (t : ByteArray) (m : Nat) : Prop :=
  ∀ (p : Nat) (ns : List AN) (ps : List PN), WfP ps → p ≤ t.size → t.size - p < m → ∃ r q, Ev t 0 0 ((p, false), ns) r ∧ EvR t 0 [] ((p, false), ps) q ∧ PO t p ns ps r q

theorem st4 {t : ByteArray} {s : RS} : stB t s [42, 43, 63, 123] = repS t s := by
  simp only [stB, repS, List.any_cons, List.any_nil, Bool.or_false, Bool.or_assoc]
  rfl
theorem kindOne {x : PN} (h : x.kind = 1 ∨ x.kind = 2 ∨ x.kind = 3) (n : Int) : sizeK x n = 1 := if_pos h

theorem atom_sync {t : ByteArray} {m p : Nat} {ns : List AN} {ps : List PN} (H : PatS t m) (hw : WfP ps) (hp : p < t.size) (h124 : pk t p ≠ 124) (h41 : pk t p ≠ 41) (hm : t.size - p ≤ m) :
    ∃ r q, Ev t 3 0 ((p, false), ns) r ∧ EvR t 3 [] ((p, false), ps) q ∧ PO t p ns ps r q ∧ (q.2.1.2 = false → p < q.2.1.1) := by
  have eN := next_lt (s := (p, false)) hp
  by_cases hr : repS t (p, false) = true
  · have hr2 := hr
    simp only [repS, Bool.or_eq_true, beq_iff_eq] at hr2
    have eO : openR t (p, false) = (p, true) := by unfold openR; rw [st4]; exact if_pos hr
    have eT : tkS t (openR t (p, false)) = (pk t p, (p + 1, true)) := by rw [eO]; exact tk_lt (s := (p, true)) hp
    have e1 := Ev.plain (t := t) (st := ((p, false), ns)) (by rw [eN]; simp only []; omega) (by rw [eN]; simp only []; omega)
    have e2 := EvR.plain (t := t) (st := ((p, false), ps)) (by rw [eT]; simp only []; omega)
    rw [eN] at e1
    rw [eT] at e2
    have p1 : plainS t (pk t p) ((p + 1, false), ns) = addS { kind := 1, its := [(pk t p, pk t p)], size := 1 } (failS t, ns) := by
      unfold plainS
      rw [if_neg (by omega), if_neg (by omega), if_neg (by omega), if_neg (by omega), if_pos (by omega)]
      rfl
    have p2 : plainR t (pk t p) ((p + 1, true), ps) = pushP { kind := 1, ins := one (pk t p) } ((p + 1, true), ps) := by
      unfold plainR
      rw [if_neg (by omega), if_neg (by omega), if_neg (by omega), if_neg (by omega), if_neg (by omega)]
    simp only [] at e1 e2
    rw [p1] at e1
    rw [p2] at e2
    exact ⟨_, _, e1, e2, leaf_po hw (Sync.fail rfl) rfl rfl (kindOne (Or.inl rfl) 0) (by simp only []; omega) hp, fun hc => by cases hc⟩
  have eO : openR t (p, false) = (p, false) := by unfold openR; rw [st4]; exact if_neg hr
  have eT : tkS t (openR t (p, false)) = (pk t p, (p + 1, false)) := by rw [eO]; exact tk_lt (s := (p, false)) hp
  have hr3 : pk t p ≠ 42 ∧ pk t p ≠ 43 ∧ pk t p ≠ 63 ∧ pk t p ≠ 123 := by
    simp only [repS, Bool.or_eq_true, beq_iff_eq] at hr; omega
  by_cases c40 : pk t p = 40
  · obtain ⟨r, q, hr1, hq1, po⟩ := H (p + 1) ns ps hw hp (by omega)
    have e1 := Ev.group (t := t) (st := ((p, false), ns)) (r1 := r) (by rw [eN]; exact c40) (by rw [eN]; exact hr1)
    have e2 := EvR.group (t := t) (st := ((p, false), ps)) (r1 := q) (by rw [eT]; exact c40) (by rw [eT]; exact hq1)
    obtain ⟨h1, h2⟩ := close_po po hp
    exact ⟨_, _, e1, e2, h1, h2⟩
  have e2 := EvR.plain (t := t) (st := ((p, false), ps)) (by rw [eT]; exact c40)
  rw [eT] at e2
  simp only [] at e2
  by_cases c91 : pk t p = 91
  · have e1 := Ev.list (t := t) (st := ((p, false), ns)) (by rw [eN]; exact c91)
    rw [eN] at e1
    simp only [] at e1
    have p1 : ∃ its neg, listS t ((p + 1, false), ns) = addS { kind := 1, its := its, neg := neg, size := 1 } (listOut t (itemsS t (takeS t 94 (p + 1, false)).2 []), ns) := ⟨_, _, rfl⟩
    have p2 : ∃ ins neg, plainR t (pk t p) ((p + 1, false), ps) = pushP { kind := 1, ins := ins, neg := neg } ((itemsR t (takeS t 94 (p + 1, false)).2 (fun _ => false)).1, ps) := ⟨_, _, by unfold plainR; rw [if_pos c91]⟩
    obtain ⟨its, neg, p1⟩ := p1
    obtain ⟨ins, neg2, p2⟩ := p2
    rw [p1] at e1
    rw [p2] at e2
    have htk : ∃ p1, (takeS t 94 (p + 1, false)).2 = (p1, false) ∧ p + 1 ≤ p1 ∧ p1 ≤ t.size := by
      by_cases hc : pk t (p + 1) = 94
      · refine ⟨p + 2, by rw [take_hit (s := (p + 1, false)) hc], by omega, pk_some (by omega)⟩
      · exact ⟨p + 1, by rw [take_miss (s := (p + 1, false)) hc], Nat.le_refl _, hp⟩
    obtain ⟨p1', hp1, hp2, hp3⟩ := htk
    have hs := sync_items (t := t) (t.size - p1') p1' [] (fun _ => false) (Nat.le_refl _) hp3 (Or.inl rfl)
    rw [hp1] at e1 e2
    have hge := itemsR_ge (t := t) (s := (p1', false)) (f := fun _ => false)
    have hfit : (itemsR t (p1', false) (fun _ => false)).1.1 ≤ t.size := by
      have : ∀ (n : Nat) (s : RS) (f : Nat → Bool), Fits t s → Fits t (itemsG t n s f).1 := by
        intro n
        induction n with
        | zero => intro s f h; exact h
        | succ n ih =>
          intro s f h
          rw [itemsG]
          split
          · exact h
          · split
            · exact fits_take (by omega) (fits_itemR h)
            · exact ih _ _ (fits_take (by omega) (fits_itemR h))
      exact this _ _ _ hp3
    exact ⟨_, _, e1, e2, leaf_po hw hs rfl rfl (kindOne (Or.inl rfl) 0) (by simp only [] at hge; omega) hfit, fun _ => by simp only [pushP]; simp only [] at hge; omega⟩
  have e1 := Ev.plain (t := t) (st := ((p, false), ns)) (by rw [eN]; exact c40) (by rw [eN]; exact c91)
  rw [eN] at e1
  simp only [] at e1
  have good : Sync t (p + 1, false) (p + 1, false) := Or.inr ⟨rfl, rfl⟩
  by_cases c46 : pk t p = 46
  · have p1 : plainS t (pk t p) ((p + 1, false), ns) = addS { kind := 1, its := [(0, 255)], size := 1 } ((p + 1, false), ns) := by unfold plainS; rw [if_pos c46]; rfl
    have p2 : plainR t (pk t p) ((p + 1, false), ps) = pushP { kind := 1, neg := true } ((p + 1, false), ps) := by unfold plainR; rw [if_neg (by omega), if_neg (by omega), if_neg (by omega), if_pos c46]
    rw [p1] at e1
    rw [p2] at e2
    exact ⟨_, _, e1, e2, leaf_po hw good rfl rfl (kindOne (Or.inl rfl) 0) (by simp only []; omega) hp, fun _ => by simp only [pushP]; omega⟩
  by_cases c94 : pk t p = 94
  · have p1 : plainS t (pk t p) ((p + 1, false), ns) = addS { kind := 2, size := 1 } ((p + 1, false), ns) := by unfold plainS; rw [if_neg c46, if_pos c94]
    have p2 : plainR t (pk t p) ((p + 1, false), ps) = pushP { kind := 2, ins := one 94 } ((p + 1, false), ps) := by unfold plainR; rw [if_neg c91, if_pos c94]
    rw [p1] at e1
    rw [p2] at e2
    exact ⟨_, _, e1, e2, leaf_po hw good rfl rfl (kindOne (Or.inr (Or.inl rfl)) 0) (by simp only []; omega) hp, fun _ => by simp only [pushP]; omega⟩
  by_cases c36 : pk t p = 36
  · have p1 : plainS t (pk t p) ((p + 1, false), ns) = addS { kind := 3, size := 1 } ((p + 1, false), ns) := by unfold plainS; rw [if_neg c46, if_neg c94, if_pos c36]
    have p2 : plainR t (pk t p) ((p + 1, false), ps) = pushP { kind := 3, ins := one 36 } ((p + 1, false), ps) := by unfold plainR; rw [if_neg c91, if_neg c94, if_pos c36]
    rw [p1] at e1
    rw [p2] at e2
    exact ⟨_, _, e1, e2, leaf_po hw good rfl rfl (kindOne (Or.inr (Or.inr rfl)) 0) (by simp only []; omega) hp, fun _ => by simp only [pushP]; omega⟩
  by_cases c92 : pk t p = 92
  · have p1 : plainS t (pk t p) ((p + 1, false), ns) = addS { kind := 1, its := [((nextS t (p + 1, false)).1, (nextS t (p + 1, false)).1)], size := 1 } ((nextS t (p + 1, false)).2, ns) := by
      unfold plainS; rw [if_neg c46, if_neg c94, if_neg c36, if_pos c92]; rfl
    have p2 : plainR t (pk t p) ((p + 1, false), ps) = pushP { kind := 1, ins := one (tkS t (p + 1, false)).1 } ((tkS t (p + 1, false)).2, ps) := by
      unfold plainR; rw [if_neg c91, if_neg c94, if_neg c36, if_neg c46, if_pos c92]
    rw [p1] at e1
    rw [p2] at e2
    have hs : Sync t (nextS t (p + 1, false)).2 (tkS t (p + 1, false)).2 := by
      by_cases hp2 : p + 1 < t.size
      · rw [next_lt (s := (p + 1, false)) hp2, tk_lt (s := (p + 1, false)) hp2]; exact Or.inr ⟨rfl, rfl⟩
      · rw [next_end (s := (p + 1, false)) hp2, tk_end (s := (p + 1, false)) hp2]; exact Sync.fail rfl
    have hge := tk_ge (t := t) (s := (p + 1, false))
    have hft : (tkS t (p + 1, false)).2.1 ≤ t.size := fits_tk (s := (p + 1, false)) hp
    simp only [] at hge
    exact ⟨_, _, e1, e2, leaf_po hw hs rfl rfl (kindOne (Or.inl rfl) 0) (by omega) hft, fun _ => by simp only [pushP]; omega⟩
  · have p1 : plainS t (pk t p) ((p + 1, false), ns) = addS { kind := 1, its := [(pk t p, pk t p)], size := 1 } ((p + 1, false), ns) := by
      unfold plainS; rw [if_neg c46, if_neg c94, if_neg c36, if_neg c92, if_neg (by omega)]; rfl
    have p2 : plainR t (pk t p) ((p + 1, false), ps) = pushP { kind := 1, ins := one (pk t p) } ((p + 1, false), ps) := by
      unfold plainR; rw [if_neg c91, if_neg c94, if_neg c36, if_neg c46, if_neg c92]
    rw [p1] at e1
    rw [p2] at e2
    exact ⟨_, _, e1, e2, leaf_po hw good rfl rfl (kindOne (Or.inl rfl) 0) (by simp only []; omega) hp, fun _ => by simp only [pushP]; omega⟩

end Go.Proofs.Ytgifhgnccmnbiaa
