/- Both readers side by side: branches and patterns; what Check comes to on both sides. No walk in it. -/
import Derived.Test.YtgifhgnccmnbiaaSyncWhole
import Derived.Test.YtgifhgnccmnbiaaRead
set_option linter.unusedVariables false
set_option linter.unusedSimpArgs false
namespace Go.Proofs.Ytgifhgnccmnbiaa
open Go.RowKit Go.IntWalk

theorem piece_sync {t : ByteArray} (hsm : t.size ≤ 40) {m p : Nat} {ns : List AN} {ps : List PN} (H : PatS t m) (hw : WfP ps) (hp : p < t.size) (he : endS t (p, false) = false) (hm : t.size - p ≤ m) :
    ∃ r q, Ev t 2 0 ((p, false), ns) r ∧ EvR t 2 [] ((p, false), ps) q ∧ PO t p ns ps r q ∧ (q.2.1.2 = false → p < q.2.1.1) := by
  simp only [endS, Bool.or_eq_false_iff, beq_eq_false_iff_ne] at he
  obtain ⟨r1, q1, a1, a2, a3, a4⟩ := atom_sync (ns := ns) H hw hp he.1.2 he.2 hm
  obtain ⟨r, q, b1, b2, b3, b4⟩ := rep_sync hsm _ r1 q1 (Nat.le_refl _) a3 a4
  exact ⟨r, q, Ev.piece a1 b1, EvR.piece a2 b2, b3, b4⟩

/-- A row or a choice that is being gathered: the one number on the one side, the list on the other. -/
structure RO (t : ByteArray) (p : Nat) (ns : List AN) (ps : List PN) (i : Nat) (nsb : List AN) (l : List Nat) (psb : List PN) (d : Nat) : Prop where
  en : ∃ more, nsb = ns ++ more
  ep : ∃ more, psb = ps ++ more
  wf : WfP psb
  kids : ∀ k, k ∈ l → k < psb.length
  idx : i < nsb.length
  sz : sizeAt nsb i = cap61 (sumT psb l)
  bd : Bd (sumT psb l) d

theorem sum_one {ps : List PN} {j d : Nat} (h : Bd (T ps j) d) (hd : d ≤ 40) : sumT ps [j] = T ps j := by
  have hs := h.small hd
  have := h.1
  show wrap64 (0 + T ps j) = _
  rw [Int.zero_add]
  exact wrap64_in _ (by omega)

theorem RO.one {t : ByteArray} {p p0 : Nat} {ns0 ns : List AN} {ps0 ps : List PN} {r : Nat × PS} {q : Nat × RP} (h : PO t p ns ps r q) (hb : q.2.1.2 = false) (hd : q.2.1.1 - p ≤ 40) (hn : ∃ more, ns = ns0 ++ more) (hq : ∃ more, ps = ps0 ++ more) :
    RO t p0 ns0 ps0 r.1 r.2.2 [q.1] q.2.2 (q.2.1.1 - p) := by
  have hs := h.sz hb
  have e := sum_one hs.2.2.2 hd
  refine ⟨?_, ?_, h.wf, fun k hk => by simp at hk; subst hk; exact hs.2.1, hs.1, by rw [e]; exact hs.2.2.1, by rw [e]; exact hs.2.2.2⟩
  · obtain ⟨a, ha⟩ := h.en; obtain ⟨c, hc⟩ := hn; exact ⟨c ++ a, by rw [ha, hc, List.append_assoc]⟩
  · obtain ⟨a, ha⟩ := h.ep; obtain ⟨c, hc⟩ := hq; exact ⟨c ++ a, by rw [ha, hc, List.append_assoc]⟩

/-- One more. -/
theorem RO.next {t : ByteArray} {p p4 i d : Nat} {ns nsb : List AN} {ps psb : List PN} {l : List Nat} {r : Nat × PS} {q : Nat × RP} (h : RO t p ns ps i nsb l psb d) (po : PO t p4 nsb psb r q) (hb : q.2.1.2 = false) (kind : Int) (s : RS)
    (d2 : Nat) (hd2 : d2 ≤ 40) (hbd : Bd (sumT psb l + T q.2.2 q.1) d2) :
    RO t p ns ps (joinS kind i r.1 (s, r.2.2)).1 (joinS kind i r.1 (s, r.2.2)).2.2 (l ++ [q.1]) q.2.2 d2 := by
  have hs := po.sz hb
  obtain ⟨an, hn⟩ := po.en
  obtain ⟨ap, hp⟩ := po.ep
  have hsum : sumT q.2.2 l = sumT psb l := by rw [hp]; exact sumT_app h.wf h.kids
  have hsm := hbd.small hd2
  have h1 := h.bd.1
  have h2 := hs.2.2.2.1
  have e : sumT q.2.2 (l ++ [q.1]) = sumT psb l + T q.2.2 q.1 := by
    rw [sumT_snoc, hsum]; exact wrap64_in _ (by omega)
  refine ⟨?_, ?_, po.wf, ?_, by simp [joinS, addS], ?_, by rw [e]; exact hbd⟩
  · obtain ⟨c, hc⟩ := h.en; exact ⟨c ++ an ++ [_], by show r.2.2 ++ [_] = _; rw [hn, hc]; simp [List.append_assoc]; rfl⟩
  · obtain ⟨c, hc⟩ := h.ep; exact ⟨c ++ ap, by rw [hp, hc, List.append_assoc]⟩
  · intro k hk
    rcases List.mem_append.1 hk with hk | hk
    · have := h.kids k hk; rw [hp]; simp; omega
    · simp at hk; subst hk; exact hs.2.1
  · show sizeAt (r.2.2 ++ [capN _]) r.2.2.length = _
    rw [sizeAt_new, e]
    show cap61 (sizeAt r.2.2 i + sizeAt r.2.2 r.1) = _
    rw [hs.2.2.1, show sizeAt r.2.2 i = cap61 (sumT psb l) by rw [hn, sizeAt_app h.idx, h.sz], cap_add _ _ h1 h2]

/-- The list is whole. -/
theorem RO.fin {t : ByteArray} {p i d : Nat} {ns nsb : List AN} {ps psb : List PN} {l : List Nat} (h : RO t p ns ps i nsb l psb d) (kind : Int) (hk : kind = 4 ∨ kind = 5) (s : RS) (hs : s.2 = false) (hd : d = s.1 - p) (hge : p ≤ s.1) (hfit : s.1 ≤ t.size) :
    PO t p ns ps (i, (s, nsb)) (pushP { kind := kind, kids := l } (s, psb)) := by
  have eT : T (psb ++ [{ kind := kind, kids := l }]) psb.length = sumT psb l := by
    rw [T_new h.wf h.kids]
    have h1 := h.bd.1
    rcases hk with rfl | rfl
    · show sizeK { kind := 4, kids := l } (sumT psb l) = _
      unfold sizeK; rw [if_neg (by simp), if_pos rfl, if_neg (by omega)]
    · show sizeK { kind := 5, kids := l } (sumT psb l) = _
      unfold sizeK; rw [if_neg (by simp), if_neg (by simp), if_neg (by simp)]
  refine ⟨Or.inr ⟨rfl, hs⟩, h.en, ?_, WfP.push h.wf h.kids, hge, hfit, by simp [pushP], fun _ => ⟨h.idx, by simp [pushP], ?_, ?_⟩⟩
  · obtain ⟨c, hc⟩ := h.ep; exact ⟨c ++ [_], by show psb ++ [_] = _; rw [hc, List.append_assoc]⟩
  · show sizeAt nsb i = cap61 (T (psb ++ [_]) psb.length)
    rw [eT]; exact h.sz
  · show Bd (T (psb ++ [_]) psb.length) (s.1 - p)
    rw [eT, ← hd]; exact h.bd
/-- It has failed. -/
theorem bad_po {t : ByteArray} {p p4 : Nat} {ns nsb : List AN} {ps psb : List PN} {l : List Nat} {r : Nat × PS} {q : Nat × RP} (po : PO t p4 nsb psb r q) (hn : ∃ more, nsb = ns ++ more) (hq : ∃ more, psb = ps ++ more) (hb : q.2.1.2 = true) (hge : p ≤ p4)
    (kind : Int) (hl : ∀ k, k ∈ l → k < q.2.2.length) (s2 : RS) (h2 : s2.2 = true) (hs1 : q.2.1.1 ≤ s2.1) (hs2 : s2.1 ≤ t.size) (r' : Nat × PS) (h1 : r'.2.1 = (t.size, true)) (h3 : ∃ more, r'.2.2 = r.2.2 ++ more) :
    PO t p ns ps r' (pushP { kind := kind, kids := l } (s2, q.2.2)) := by
  refine ⟨Or.inl ⟨h1, h2⟩, ?_, ?_, WfP.push po.wf hl, ?_, hs2, by simp [pushP], fun hc => ?_⟩
  · obtain ⟨a, ha⟩ := po.en; obtain ⟨c, hc⟩ := hn; obtain ⟨e, he⟩ := h3
    exact ⟨c ++ a ++ e, by rw [he, ha, hc]; simp [List.append_assoc]⟩
  · obtain ⟨a, ha⟩ := po.ep; obtain ⟨c, hc⟩ := hq
    exact ⟨c ++ a ++ [_], by show q.2.2 ++ [_] = _; rw [ha, hc]; simp [List.append_assoc]; rfl⟩
  · have := po.ge; show p ≤ s2.1; omega
  · have hc : s2.2 = false := hc
    rw [h2] at hc; cases hc

/-- What may follow a piece in its branch. -/
theorem and_sync {t : ByteArray} (hsm : t.size ≤ 40) {m p : Nat} {ns : List AN} {ps : List PN} (H : PatS t m) (hpm : t.size - p ≤ m) : ∀ (n i : Nat) (p1 : Nat) (nsb : List AN) (l : List Nat) (psb : List PN), t.size - p1 ≤ n → RO t p ns ps i nsb l psb (p1 - p) → p < p1 → p1 ≤ t.size →
    ∃ r q, Ev t 5 i ((p1, false), nsb) r ∧ EvR t 1 l ((p1, false), psb) q ∧ PO t p ns ps r q
  | n, i, p1, nsb, l, psb, hn, h, hlt, hfit => by
    have hmo := end_more (t := t) (p := p1) hfit
    cases he : endS t (p1, false) with
    | true =>
      rw [he] at hmo
      exact ⟨_, _, Ev.andEnd (st := ((p1, false), nsb)) he, EvR.branchEnd (st := ((p1, false), psb)) hmo, h.fin 4 (Or.inl rfl) _ rfl rfl (by show p ≤ p1; omega) hfit⟩
    | false =>
      rw [he] at hmo
      have hp1 := endS_lt he
      obtain ⟨r4, q4, a1, a2, a3, a4⟩ := piece_sync (ns := nsb) hsm H h.wf hp1 he (by simp only [] at hp1 ⊢; omega)
      cases hb : q4.2.1.2 with
      | true =>
        have e1 := sync_bad a3.sync hb
        refine ⟨joinS 4 i r4.1 r4.2, _, Ev.and (st := ((p1, false), nsb)) he a1 (Ev.andEnd (by show endS t r4.2.1 = true; rw [e1]; exact endS_end)), EvR.branchOn (st := ((p1, false), psb)) hmo a2 (EvR.branchEnd (more_bad hb)), ?_⟩
        have hk4 : ∀ k, k ∈ l ++ [q4.1] → k < q4.2.2.length := by
          intro k hk
          rcases List.mem_append.1 hk with hk | hk
          · have := h.kids k hk
            obtain ⟨ap, hp⟩ := a3.ep
            rw [hp]; simp; omega
          · simp at hk; subst hk; exact a3.jdx
        exact bad_po (p := p) a3 h.en h.ep hb (by omega) 4 hk4 q4.2.1 hb (Nat.le_refl _) a3.fit _ e1 ⟨_, rfl⟩
      | false =>
        have e1 := sync_good a3.sync hb
        have hs := a3.sz hb
        have hgt := a4 hb
        have hfit4 := a3.fit
        have hro := h.next a3 hb 4 r4.2.1 (q4.2.1.1 - p) (by omega) (by
          have := h.bd.add hs.2.2.2 (by omega) (by omega)
          rwa [show p1 - p + (q4.2.1.1 - p1) = q4.2.1.1 - p by omega] at this)
        obtain ⟨⟨p2, b2⟩, hq2⟩ : ∃ s, q4.2.1 = s := ⟨_, rfl⟩
        rw [hq2] at e1 hb hgt hfit4 hro
        simp only [] at hb hgt hfit4 hro
        subst hb
        match n, hn with
        | 0, hn => simp only [] at hp1; omega
        | n + 1, hn =>
          obtain ⟨r, q, b1, b2, b3⟩ := and_sync hsm H hpm n _ p2 _ _ _ (by omega) hro (by omega) hfit4
          refine ⟨r, q, Ev.and (st := ((p1, false), nsb)) he a1 ?_, EvR.branchOn (st := ((p1, false), psb)) hmo a2 ?_, b3⟩
          · show Ev t 5 (joinS 4 i r4.1 r4.2).1 (joinS 4 i r4.1 r4.2).2 r
            have : (joinS 4 i r4.1 r4.2).2 = ((p2, false), (joinS 4 i r4.1 (r4.2.1, r4.2.2)).2.2) := by
              show (r4.2.1, _) = _
              rw [e1]; rfl
            rw [this]; exact b1
          · have : q4.2 = ((p2, false), q4.2.2) := by rw [← hq2]
            rw [this]; exact b2

theorem branch_sync {t : ByteArray} (hsm : t.size ≤ 40) {m p : Nat} {ns : List AN} {ps : List PN} (H : PatS t m) (hw : WfP ps) (hp : p ≤ t.size) (hpm : t.size - p ≤ m) :
    ∃ r q, Ev t 1 0 ((p, false), ns) r ∧ EvR t 1 [] ((p, false), ps) q ∧ PO t p ns ps r q := by
  have hmo := end_more (t := t) (p := p) hp
  cases he : endS t (p, false) with
  | true =>
    rw [he] at hmo
    exact ⟨_, _, Ev.empty (st := ((p, false), ns)) he, EvR.branchEnd (cur := []) (st := ((p, false), ps)) hmo, leaf_po hw (Or.inr ⟨rfl, rfl⟩) rfl rfl rfl (Nat.le_refl _) hp⟩
  | false =>
    rw [he] at hmo
    have hp1 := endS_lt he
    simp only [] at hp1
    obtain ⟨r1, q1, a1, a2, a3, a4⟩ := piece_sync (ns := ns) hsm H hw hp1 he hpm
    cases hb : q1.2.1.2 with
    | true =>
      have e1 := sync_bad a3.sync hb
      refine ⟨r1, _, Ev.branch (st := ((p, false), ns)) he a1 (Ev.andEnd (by rw [e1]; exact endS_end)), EvR.branchOn (st := ((p, false), ps)) hmo a2 (EvR.branchEnd (more_bad hb)), ?_⟩
      exact bad_po (p := p) a3 ⟨[], by simp⟩ ⟨[], by simp⟩ hb (Nat.le_refl _) 4 (fun k hk => by simp at hk; subst hk; exact a3.jdx) q1.2.1 hb (Nat.le_refl _) a3.fit _ e1 ⟨[], by simp⟩
    | false =>
      have e1 := sync_good a3.sync hb
      have hgt := a4 hb
      have hfit1 := a3.fit
      have hro : RO t p ns ps r1.1 r1.2.2 [q1.1] q1.2.2 (q1.2.1.1 - p) := RO.one a3 hb (by omega) ⟨[], by simp⟩ ⟨[], by simp⟩
      obtain ⟨⟨p2, b2⟩, hq2⟩ : ∃ s, q1.2.1 = s := ⟨_, rfl⟩
      rw [hq2] at e1 hb hgt hfit1 hro
      simp only [] at hb hgt hfit1 hro
      subst hb
      obtain ⟨r, q, b1, b2, b3⟩ := and_sync hsm H hpm _ _ p2 _ _ _ (Nat.le_refl _) hro hgt hfit1
      refine ⟨r, q, Ev.branch (st := ((p, false), ns)) he a1 ?_, EvR.branchOn (st := ((p, false), ps)) hmo a2 ?_, b3⟩
      · have : r1.2 = ((p2, false), r1.2.2) := by rw [← e1]
        rw [this]; exact b1
      · have : q1.2 = ((p2, false), q1.2.2) := by rw [← hq2]
        rw [this]; exact b2

theorem take_end {t : ByteArray} {c : Int} (hc : 0 ≤ c) {b : Bool} : takeS t c (t.size, b) = (false, (t.size, b)) := take_miss (s := (t.size, b)) (by rw [pk_ge (p := t.size) (by omega)]; omega)

/-- What may follow a | in its pattern. -/
theorem or_sync {t : ByteArray} (hsm : t.size ≤ 40) {m p : Nat} {ns : List AN} {ps : List PN} (H : PatS t m) (hpm : t.size - p ≤ m) : ∀ (n i : Nat) (p1 : Nat) (nsb : List AN) (l : List Nat) (psb : List PN), t.size - p1 ≤ n → RO t p ns ps i nsb l psb (p1 - 1 - p) → p < p1 → p1 ≤ t.size →
    ∃ r q, (∀ s0, takeS t 124 s0 = (true, (p1, false)) → Ev t 4 i (s0, nsb) r) ∧ EvR t 0 l ((p1, false), psb) q ∧ PO t p ns ps r q
  | n, i, p1, nsb, l, psb, hn, h, hlt, hfit => by
    obtain ⟨r4, q4, a1, a2, a3⟩ := branch_sync (ns := nsb) hsm H h.wf hfit (by omega)
    have hk4 : ∀ k, k ∈ l ++ [q4.1] → k < q4.2.2.length := by
      intro k hk
      rcases List.mem_append.1 hk with hk | hk
      · have := h.kids k hk
        obtain ⟨ap, hp⟩ := a3.ep
        rw [hp]; simp; omega
      · simp at hk; subst hk; exact a3.jdx
    have hevOr : ∀ r, Ev t 4 (joinS 5 i r4.1 r4.2).1 (joinS 5 i r4.1 r4.2).2 r → ∀ s0, takeS t 124 s0 = (true, (p1, false)) → Ev t 4 i (s0, nsb) r := fun r hr s0 hs0 =>
      Ev.or (st := (s0, nsb)) (r1 := r4) (by rw [hs0]) (by rw [hs0]; exact a1) hr
    cases hb : q4.2.1.2 with
    | true =>
      have e1 := sync_bad a3.sync hb
      refine ⟨joinS 5 i r4.1 r4.2, _, hevOr _ (Ev.orEnd (by show (takeS t 124 r4.2.1).1 = false; rw [e1, take_end (by omega)])), EvR.choiceEnd (st := ((p1, false), psb)) a2 (Or.inr (take_bad hb)), ?_⟩
      exact bad_po (p := p) a3 h.en h.ep hb (by omega) 5 hk4 (takeS t 124 q4.2.1).2 (take_bad hb) take_ge (take_le (by omega) a3.fit) _ e1 ⟨_, rfl⟩
    | false =>
      have e1 := sync_good a3.sync hb
      have hs := a3.sz hb
      have hge := a3.ge
      have hfit4 := a3.fit
      have hro := h.next a3 hb 5 r4.2.1 (q4.2.1.1 - p) (by omega) (by
        have := h.bd.or hs.2.2.2
        rwa [show p1 - 1 - p + (q4.2.1.1 - p1) + 1 = q4.2.1.1 - p by omega] at this)
      obtain ⟨⟨p2, b2⟩, hq2⟩ : ∃ s, q4.2.1 = s := ⟨_, rfl⟩
      rw [hq2] at e1 hb hge hfit4 hro
      simp only [] at hb hge hfit4 hro
      subst hb
      by_cases hc : pk t p2 = 124
      · have et := take_hit (t := t) (s := (p2, false)) hc
        have hp2 : p2 < t.size := pk_some (by omega)
        match n, hn with
        | 0, hn => omega
        | n + 1, hn =>
          obtain ⟨r, q, b1, b2, b3⟩ := or_sync hsm H hpm n _ (p2 + 1) _ _ _ (by omega) (by rwa [show p2 + 1 - 1 - p = p2 - p by omega]) (by omega) hp2
          refine ⟨r, q, hevOr r ?_, EvR.choiceOn (st := ((p1, false), psb)) a2 (by rw [hq2, et]; simp) (by rw [hq2, et]; exact b2), b3⟩
          have : (joinS 5 i r4.1 r4.2).2 = ((p2, false), (joinS 5 i r4.1 (r4.2.1, r4.2.2)).2.2) := by
            show (r4.2.1, _) = _
            rw [e1]; rfl
          rw [this]
          exact b1 (p2, false) et
      · have et := take_miss (t := t) (s := (p2, false)) hc
        refine ⟨joinS 5 i r4.1 r4.2, _, hevOr _ (Ev.orEnd (by show (takeS t 124 r4.2.1).1 = false; rw [e1, et])), EvR.choiceEnd (st := ((p1, false), psb)) a2 (by rw [hq2, et]; simp), ?_⟩
        have hfin := hro.fin 5 (Or.inr rfl) (p2, false) rfl rfl (by show p ≤ p2; omega) hfit4
        rw [hq2, et]
        have : joinS 5 i r4.1 r4.2 = ((joinS 5 i r4.1 (r4.2.1, r4.2.2)).1, ((p2, false), (joinS 5 i r4.1 (r4.2.1, r4.2.2)).2.2)) := by
          show (_, (r4.2.1, _)) = _
          rw [e1]; rfl
        rw [this]
        exact hfin

theorem pat_step {t : ByteArray} (hsm : t.size ≤ 40) {m : Nat} (H : PatS t m) : PatS t (m + 1) := by
  intro p ns ps hw hp hm
  obtain ⟨r1, q1, a1, a2, a3⟩ := branch_sync (ns := ns) hsm H hw hp (by omega)
  cases hb : q1.2.1.2 with
  | true =>
    have e1 := sync_bad a3.sync hb
    refine ⟨r1, _, Ev.pattern a1 (Ev.orEnd (by rw [e1, take_end (by omega)])), EvR.choiceEnd (cur := []) (st := ((p, false), ps)) a2 (Or.inr (take_bad hb)), ?_⟩
    exact bad_po (p := p) a3 ⟨[], by simp⟩ ⟨[], by simp⟩ hb (Nat.le_refl _) 5 (fun k hk => by simp at hk; subst hk; exact a3.jdx) (takeS t 124 q1.2.1).2 (take_bad hb) take_ge (take_le (by omega) a3.fit) _ e1 ⟨[], by simp⟩
  | false =>
    have e1 := sync_good a3.sync hb
    have hge := a3.ge
    have hfit1 := a3.fit
    have hro : RO t p ns ps r1.1 r1.2.2 [q1.1] q1.2.2 (q1.2.1.1 - p) := RO.one a3 hb (by omega) ⟨[], by simp⟩ ⟨[], by simp⟩
    obtain ⟨⟨p2, b2⟩, hq2⟩ : ∃ s, q1.2.1 = s := ⟨_, rfl⟩
    rw [hq2] at e1 hb hge hfit1 hro
    simp only [] at hb hge hfit1 hro
    subst hb
    have er : r1.2 = ((p2, false), r1.2.2) := by rw [← e1]
    by_cases hc : pk t p2 = 124
    · have et := take_hit (t := t) (s := (p2, false)) hc
      have hp2 : p2 < t.size := pk_some (by omega)
      obtain ⟨r, q, b1, b2, b3⟩ := or_sync (p := p) (m := m) (ns := ns) (ps := ps) hsm H (by omega) _ _ (p2 + 1) _ _ _ (Nat.le_refl _) (by rwa [show p2 + 1 - 1 - p = p2 - p by omega]) (by omega) hp2
      refine ⟨r, q, Ev.pattern a1 (by rw [er]; exact b1 (p2, false) et), EvR.choiceOn (cur := []) (st := ((p, false), ps)) a2 (by rw [hq2, et]; simp) (by rw [hq2, et]; exact b2), b3⟩
    · have et := take_miss (t := t) (s := (p2, false)) hc
      refine ⟨r1, _, Ev.pattern a1 (Ev.orEnd (by rw [er, et])), EvR.choiceEnd (cur := []) (st := ((p, false), ps)) a2 (by rw [hq2, et]; simp), ?_⟩
      have hfin := hro.fin 5 (Or.inr rfl) (p2, false) rfl rfl (by show p ≤ p2; omega) hfit1
      rw [hq2, et]
      rw [show r1 = (r1.1, ((p2, false), r1.2.2)) by rw [← er]]
      exact hfin

theorem pat_any {t : ByteArray} (hsm : t.size ≤ 40) : ∀ m, PatS t m
  | 0 => fun _ _ _ _ _ h => by omega
  | m + 1 => pat_step hsm (pat_any hsm m)

theorem EvR.one {t : ByteArray} {tag : Nat} {cur : List Nat} {st : RP} {r r' : Nat × RP} (h : EvR t tag cur st r) (h' : EvR t tag cur st r') : r = r' := by
  obtain ⟨a, ha⟩ := h
  obtain ⟨c, hc⟩ := h'
  rw [← ha (a + c) (by omega), hc (a + c) (by omega)]

/-- BOTH SIDES TELL THE SAME OF A PATTERN. -/
theorem check_same {t : ByteArray} (hsm : t.size ≤ 40) {r : Nat × PS} {q : Nat × RP} (hr : Ev t 0 0 st0 r) (hq : EvR t 0 [] rp0 q) :
    (BadR t r ↔ BadT t q) ∧ (¬ BadT t q → sizeAt r.2.2 r.1 = cap61 (szT q)) := by
  obtain ⟨r', q', h1, h2, po⟩ := pat_any hsm (t.size + 1) 0 [] [] (fun i p hp => by simp at hp) (Nat.zero_le _) (by omega)
  have er := hr.one h1
  have eq := hq.one h2
  subst er eq
  unfold BadR BadT
  cases hb : q.2.1.2 with
  | true =>
    have e1 := sync_bad po.sync hb
    rw [e1]
    simp
  | false =>
    have e1 := sync_good po.sync hb
    rw [e1, hb]
    exact ⟨Iff.rfl, fun _ => (po.sz hb).2.2.1⟩

end Go.Proofs.Ytgifhgnccmnbiaa
