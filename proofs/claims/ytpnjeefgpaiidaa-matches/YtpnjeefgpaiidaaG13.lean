/- Both readers side by side: members, lists, bounds. No Go in it. -/
import Derived.Test.YtpnjeefgpaiidaaG01
import Derived.Test.YtpnjeefgpaiidaaG03
import Derived.Test.YtpnjeefgpaiidaaG04
import Derived.Test.YtpnjeefgpaiidaaG05
import Derived.Test.YtpnjeefgpaiidaaG12
import Derived.Deep.RegionLaw
set_option linter.unusedVariables false
set_option linter.unusedSimpArgs false
namespace Go.Proofs.Ytpnjeefgpaiidaa

/-- Both have failed, or both stand at one place. -/
def Sync (t : ByteArray) (a b : RS) : Prop := (a = (t.size, true) ∧ b.2 = true) ∨ (a = b ∧ a.2 = false)

theorem next_lt {t : ByteArray} {s : RS} (h : s.1 < t.size) : nextS t s = (pk t s.1, (s.1 + 1, s.2)) := by
  unfold nextS; rw [if_neg (by rw [pk_none]; omega)]
theorem next_end {t : ByteArray} {s : RS} (h : ¬ s.1 < t.size) : nextS t s = (0, failS t) := by
  unfold nextS; rw [if_pos (by rw [pk_none]; exact h)]
theorem tk_lt {t : ByteArray} {s : RS} (h : s.1 < t.size) : tkS t s = (pk t s.1, (s.1 + 1, s.2)) := if_pos h
theorem tk_end {t : ByteArray} {s : RS} (h : ¬ s.1 < t.size) : tkS t s = (0, (s.1, true)) := if_neg h
theorem take_hit {t : ByteArray} {s : RS} {c : Int} (h : pk t s.1 = c) : takeS t c s = (true, (s.1 + 1, s.2)) := if_pos h
theorem take_miss {t : ByteArray} {s : RS} {c : Int} (h : ¬ pk t s.1 = c) : takeS t c s = (false, s) := if_neg h
theorem st1 {t : ByteArray} {s : RS} {c : UInt8} : stB t s [c] = (pk t s.1 == (c.toNat : Int)) := by simp [stB]

/-- A member. -/
theorem sync_mem {t : ByteArray} {p : Nat} (hp : p < t.size) (h93 : pk t p ≠ 93) :
    (memS t (p, false) = memR t (p, false) ∧ (memS t (p, false)).2.2 = false ∧ (memS t (p, false)).2.1 ≤ t.size) ∨
    ((memS t (p, false)) = (0, failS t) ∧ (memR t (p, false)).2 = (t.size, true) ∧ (memR t (p, false)).1 = 0) := by
  have e93 : stB t (p, false) [93] = false := by rw [st1]; simpa using h93
  have eR : memR t (p, false) = tkS t (takeS t 92 (p, false)).2 := by unfold memR; rw [if_neg (by rw [e93]; decide)]
  have eN := next_lt (s := (p, false)) hp
  rw [eR]
  unfold memS
  rw [eN]
  simp only []
  by_cases h : pk t p = 92
  · rw [if_pos h, take_hit (s := (p, false)) h]
    simp only []
    by_cases hp2 : p + 1 < t.size
    · left
      rw [next_lt (s := (p + 1, false)) hp2, tk_lt (s := (p + 1, false)) hp2]
      exact ⟨rfl, rfl, hp2⟩
    · right
      rw [next_end (s := (p + 1, false)) hp2, tk_end (s := (p + 1, false)) hp2]
      have : p + 1 = t.size := by omega
      exact ⟨rfl, by simp [this], rfl⟩
  · left
    rw [if_neg h, take_miss (s := (p, false)) h, tk_lt (s := (p, false)) hp]
    exact ⟨rfl, rfl, hp⟩

theorem sec_end {t : ByteArray} {b : Bool} : secS t (t.size, b) = false := by
  unfold secS; rw [pk_ge (p := t.size) (by omega)]; rfl

/-- An item. -/
theorem sync_item {t : ByteArray} {p : Nat} {f : Nat → Bool} (hp : p < t.size) (h93 : pk t p ≠ 93) : Sync t (itemS t (p, false)).2 (itemR t (p, false) f).1 := by
  rcases sync_mem hp h93 with ⟨h1, h2, h3⟩ | ⟨h1, h2, h4⟩
  · obtain ⟨c, s1, hm⟩ : ∃ c s1, memS t (p, false) = (c, s1) := ⟨_, _, rfl⟩
    rw [hm] at h1 h2 h3
    obtain ⟨p1, b1⟩ := s1
    simp only [] at h2 h3
    subst h2
    by_cases hs : secS t (p1, false) = true
    · have hs2 := hs
      simp only [secS, Bool.and_eq_true, beq_iff_eq, bne_iff_ne] at hs2
      obtain ⟨⟨_, g1⟩, g2⟩ := hs2
      have hp1 : p1 + 1 < t.size := by rw [Ne, pk_none] at g1; omega
      have eH : highS t (p, false) = memS t (p1 + 1, false) := by unfold highS; rw [hm]; exact if_pos hs
      have eT : toR t (p, false) = memR t (p1 + 1, false) := by
        unfold toR; rw [← h1]; simp only []; rw [if_pos hs, tk_lt (s := (p1, false)) (by omega)]
      have eI : (itemS t (p, false)).2 = if (highS t (p, false)).1 < c then failS t else (highS t (p, false)).2 := by unfold itemS; rw [hm]
      have eJ : (itemR t (p, false) f).1 = if (toR t (p, false)).1 < c then markS (toR t (p, false)).2 else (toR t (p, false)).2 := by unfold itemR; rw [← h1]
      rw [eI, eJ, eH, eT]
      rcases sync_mem hp1 g2 with ⟨k1, k2, k3⟩ | ⟨k1, k2, k4⟩
      · rw [← k1]
        by_cases hl : (memS t (p1 + 1, false)).1 < c
        · rw [if_pos hl, if_pos hl]; left; exact ⟨rfl, rfl⟩
        · rw [if_neg hl, if_neg hl]; right; exact ⟨rfl, k2⟩
      · left
        rw [k1]
        refine ⟨by simp only []; split <;> rfl, ?_⟩
        split
        · rfl
        · rw [k2]
    · have eH : highS t (p, false) = memS t (p, false) := by unfold highS; rw [hm]; exact if_neg hs
      have eT : toR t (p, false) = memR t (p, false) := by unfold toR; rw [← h1]; simp only []; rw [if_neg hs]
      have eI : (itemS t (p, false)).2 = (p1, false) := by unfold itemS; rw [eH, hm]; simp
      have eJ : (itemR t (p, false) f).1 = (p1, false) := by unfold itemR; rw [eT, ← h1]; simp
      rw [eI, eJ]; right; exact ⟨rfl, rfl⟩
  · left
    have eH : highS t (p, false) = memS t (p, false) := by unfold highS; rw [h1]; exact if_neg (by simp only [failS]; rw [sec_end]; decide)
    have eT : toR t (p, false) = memR t (p, false) := by unfold toR; rw [h2, sec_end]; simp
    refine ⟨?_, ?_⟩
    · unfold itemS; rw [eH, h1]; simp [failS]
    · unfold itemR; rw [eT]; simp [h2]

theorem itemR_noMem {t : ByteArray} {p : Nat} {f : Nat → Bool} (h : ¬ p < t.size ∨ pk t p = 93) : (itemR t (p, false) f).1.2 = true := by
  have hm : (memR t (p, false)).2.2 = true := by
    unfold memR
    rcases h with h | h
    · have e93 : stB t (p, false) [93] = false := by rw [st1, pk_ge h]; decide
      rw [if_neg (by rw [e93]; decide), take_miss (s := (p, false)) (by rw [pk_ge h]; decide), tk_end (s := (p, false)) h]
    · have e93 : stB t (p, false) [93] = true := by rw [st1, h]; decide
      rw [if_pos e93]
      exact tk_bad (take_bad rfl)
  have ht := toR_bad hm
  unfold itemR
  simp only []
  split
  · rfl
  · exact ht

theorem itemsR_noMem {t : ByteArray} {p : Nat} {f : Nat → Bool} (hf : p ≤ t.size) (h : ¬ p < t.size ∨ pk t p = 93) : (itemsR t (p, false) f).1.2 = true := by
  have h1 := itemR_noMem (f := f) h
  cases hc : (takeS t 93 (itemR t (p, false) f).1).1 with
  | true => rw [itemsR_end rfl hc]; exact take_bad h1
  | false => rw [itemsR_on (s := (p, false)) hf rfl hc, itemsR_bad (take_bad h1)]; exact take_bad h1

/-- What a list comes to on the one side. -/
def listOut (t : ByteArray) (I : List (Int × Int) × RS) : RS := if (takeS t 93 I.2).1 = false ∨ I.1.length = 0 then failS t else (takeS t 93 I.2).2

theorem itemQ_iff {t : ByteArray} {p : Nat} {b : Bool} : itemQ t (p, b) = true ↔ p < t.size ∧ pk t p ≠ 93 := by
  simp only [itemQ, Bool.and_eq_true, bne_iff_ne]
  constructor
  · intro h; exact ⟨by have := h.1; rw [Ne, pk_none] at this; omega, h.2⟩
  · intro h; exact ⟨by rw [Ne, pk_none]; omega, h.2⟩

theorem sync_items {t : ByteArray} : ∀ (n p : Nat) (acc : List (Int × Int)) (f : Nat → Bool), t.size - p ≤ n → p ≤ t.size → (acc = [] ∨ pk t p ≠ 93) →
    Sync t (listOut t (itemsS t (p, false) acc)) (itemsR t (p, false) f).1
  | n, p, acc, f, hn, hf, hacc => by
    by_cases hq : itemQ t (p, false) = true
    · obtain ⟨hp, h93⟩ := itemQ_iff.1 hq
      rw [itemsS_on hq]
      have hgt := item_gt (t := t) (s := (p, false)) hp
      rcases sync_item (f := f) hp h93 with ⟨h1, h2⟩ | ⟨h1, h2⟩
      · left
        refine ⟨?_, ?_⟩
        · rw [h1, itemsS_off (by cases h : itemQ t (t.size, true) with | false => rfl | true => have := (itemQ_iff.1 h).1; omega)]
          unfold listOut
          rw [take_miss (s := (t.size, true)) (by rw [pk_ge (by omega)]; decide)]
          exact if_pos (Or.inl rfl)
        · cases hc : (takeS t 93 (itemR t (p, false) f).1).1 with
          | true => rw [itemsR_end rfl hc]; exact take_bad h2
          | false => rw [itemsR_on (s := (p, false)) hf rfl hc, itemsR_bad (take_bad h2)]; exact take_bad h2
      · obtain ⟨⟨p1, b1⟩, hs1⟩ : ∃ s1, (itemS t (p, false)).2 = s1 := ⟨_, rfl⟩
        rw [hs1] at h1 h2 hgt
        simp only [] at h2 hgt
        subst h2
        have hf1 := fits_item (t := t) (s := (p, false)) hf
        rw [hs1] at hf1
        simp only [Fits] at hf1
        rw [hs1]
        by_cases h931 : pk t p1 = 93
        · right
          have hc : takeS t 93 (itemR t (p, false) f).1 = (true, (p1 + 1, false)) := by rw [← h1]; exact take_hit (s := (p1, false)) h931
          rw [itemsR_end rfl (by rw [hc]), hc, itemsS_off (by cases h : itemQ t (p1, false) with | false => rfl | true => exact absurd h931 (itemQ_iff.1 h).2)]
          unfold listOut
          rw [take_hit (s := (p1, false)) h931]
          simp
        · have hc : takeS t 93 (itemR t (p, false) f).1 = (false, (p1, false)) := by rw [← h1]; exact take_miss (s := (p1, false)) h931
          rw [itemsR_on (s := (p, false)) hf rfl (by rw [hc]), hc]
          match n, hn with
          | 0, hn => omega
          | n + 1, hn => exact sync_items n p1 _ _ (by omega) hf1 (Or.inr h931)
    · have hno : ¬ p < t.size ∨ pk t p = 93 := by
        by_cases hp : p < t.size
        · right
          by_cases h93 : pk t p = 93
          · exact h93
          · exact absurd (itemQ_iff.2 ⟨hp, h93⟩) hq
        · exact Or.inl hp
      left
      refine ⟨?_, itemsR_noMem hf hno⟩
      rw [itemsS_off (by simpa using hq)]
      unfold listOut
      rcases hacc with rfl | h93
      · exact if_pos (Or.inr rfl)
      · rw [take_miss (s := (p, false)) h93]
        exact if_pos (Or.inl rfl)

/-- A digit. -/
theorem dig_good {t : ByteArray} {p : Nat} (hp : p < t.size) (h1 : 48 ≤ pk t p) (h2 : pk t p ≤ 57) : digS t (p, false) = (pk t p - 48, (p + 1, false)) := by
  unfold digS; rw [next_lt (s := (p, false)) hp]; exact if_neg (by simp only []; omega)
theorem dig_bad {t : ByteArray} {s : RS} (h : ¬ (s.1 < t.size ∧ 48 ≤ pk t s.1 ∧ pk t s.1 ≤ 57)) : digS t s = (0, failS t) := by
  unfold digS
  by_cases hp : s.1 < t.size
  · rw [next_lt hp]; exact if_pos (by simp only []; omega)
  · rw [next_end hp]; exact if_pos (by simp only []; omega)
theorem take_fail {t : ByteArray} {c : Int} (hc : 0 ≤ c) : takeS t c (failS t) = (false, failS t) :=
  take_miss (s := failS t) (by simp only [failS]; rw [pk_ge (by omega)]; omega)

theorem mark_bad {s : RS} : (markS s).2 = true := rfl

/-- Bounds, behind the {. -/
theorem sync_braces {t : ByteArray} {p : Nat} (hf : p ≤ t.size) :
    ((bracesS t (p, false)).2 = (t.size, true) ∧ (bndR t (p, false)).2.2 = true) ∨ (bracesS t (p, false) = bndR t (p, false) ∧ (bracesS t (p, false)).2.2 = false) := by
  by_cases hd : p < t.size ∧ 48 ≤ pk t p ∧ pk t p ≤ 57
  · obtain ⟨hp, g1, g2⟩ := hd
    have eD := dig_good hp g1 g2
    have eK := tk_lt (s := (p, false)) hp
    have eB1 : (bndR t (p, false)).2 = if (bndMost t (p, false)).2.1 = false then markS (bndMost t (p, false)).2.2 else (bndMost t (p, false)).2.2 := by
      unfold bndR
      rw [eK]
      simp only []
      by_cases hx : (bndMost t (p, false)).2.1 = false
      · rw [if_pos (Or.inr (Or.inr hx)), if_pos hx]
      · rw [if_neg (by rintro (h | h | h); omega; omega; exact hx h), if_neg hx]
    have eB2 : (bndR t (p, false)).1 = (pk t p - 48, (bndMost t (p, false)).1) := by unfold bndR; rw [eK]
    by_cases hc : pk t (p + 1) = 44
    · have eC := take_hit (t := t) (s := (p + 1, false)) hc
      have hp1 : p + 1 < t.size := pk_some (by omega)
      by_cases hq : pk t (p + 2) = 125
      · right
        have eQ := take_hit (t := t) (s := (p + 2, false)) hq
        have eM : mostS t (p, false) = (-1, (p + 2, false)) := by
          unfold mostS; rw [eD]; simp only []; rw [eC]; simp only [if_true]; unfold upS; exact if_pos hq
        have eS : bracesS t (p, false) = ((pk t p - 48, -1), (p + 3, false)) := by
          unfold bracesS; rw [eM, eD]; simp only []; rw [eQ]; simp
        have eN : bndMost t (p, false) = (-1, (true, (p + 3, false))) := by
          unfold bndMost; rw [eK]; simp only []; rw [eC]; simp only []; rw [eQ]; simp
        rw [eS]
        refine ⟨?_, rfl⟩
        rw [Prod.ext_iff]
        rw [eB1, eB2, eN]
        exact ⟨rfl, rfl⟩
      · have eQ := take_miss (t := t) (s := (p + 2, false)) hq
        have eM : mostS t (p, false) = digS t (p + 2, false) := by
          unfold mostS; rw [eD]; simp only []; rw [eC]; simp only [if_true]; unfold upS; exact if_neg hq
        have eN : bndMost t (p, false) = ((tkS t (p + 2, false)).1 - 48, ((takeS t 125 (tkS t (p + 2, false)).2).1, if (tkS t (p + 2, false)).1 < 48 ∨ 57 < (tkS t (p + 2, false)).1 ∨ (tkS t (p + 2, false)).1 - 48 < pk t p - 48 then markS (takeS t 125 (tkS t (p + 2, false)).2).2 else (takeS t 125 (tkS t (p + 2, false)).2).2)) := by
          unfold bndMost; rw [eK]; simp only []; rw [eC]; simp only []; rw [eQ]; simp
        by_cases hd2 : p + 2 < t.size ∧ 48 ≤ pk t (p + 2) ∧ pk t (p + 2) ≤ 57
        · obtain ⟨hp2, l1, l2⟩ := hd2
          have eD2 := dig_good hp2 l1 l2
          have eK2 := tk_lt (s := (p + 2, false)) hp2
          rw [eD2] at eM
          rw [eK2] at eN
          simp only [] at eN
          by_cases hz : pk t (p + 3) = 125
          · have eZ := take_hit (t := t) (s := (p + 3, false)) hz
            rw [eZ] at eN
            simp only [] at eN
            by_cases hl : pk t (p + 2) - 48 < pk t p - 48
            · left
              rw [if_pos (Or.inr (Or.inr hl))] at eN
              refine ⟨?_, ?_⟩
              · unfold bracesS; rw [eM, eD]; simp only []; rw [if_pos (Or.inr ⟨by omega, hl⟩)]; rfl
              · rw [eB1, eN]; rfl
            · right
              rw [if_neg (by omega)] at eN
              have eS : bracesS t (p, false) = ((pk t p - 48, pk t (p + 2) - 48), (p + 4, false)) := by
                unfold bracesS; rw [eM, eD]; simp only []; rw [eZ]; rw [if_neg (by simp; omega)]
              rw [eS]
              refine ⟨?_, rfl⟩
              rw [Prod.ext_iff, eB1, eB2, eN]
              exact ⟨rfl, rfl⟩
          · left
            have eZ := take_miss (t := t) (s := (p + 3, false)) hz
            refine ⟨?_, ?_⟩
            · unfold bracesS; rw [eM, eD]; simp only []; rw [eZ]; rw [if_pos (Or.inl rfl)]; rfl
            · rw [eB1, eN, eZ]; rfl
        · left
          have eD2 := dig_bad (t := t) (s := (p + 2, false)) hd2
          rw [eD2] at eM
          refine ⟨?_, ?_⟩
          · unfold bracesS; rw [eM]; simp only []; rw [take_fail (by omega)]; rw [if_pos (Or.inl rfl)]; rfl
          · have hmk : (bndMost t (p, false)).2.2.2 = true := by
              rw [eN]
              simp only []
              by_cases hp2 : p + 2 < t.size
              · rw [tk_lt (s := (p + 2, false)) hp2]
                simp only []
                rw [if_pos (by omega)]
                rfl
              · rw [tk_end (s := (p + 2, false)) hp2]
                simp
                rfl
            rw [eB1]
            split
            · rfl
            · exact hmk
    · have eC := take_miss (t := t) (s := (p + 1, false)) hc
      have eM : mostS t (p, false) = (pk t p - 48, (p + 1, false)) := by
        unfold mostS; rw [eD]; simp only []; rw [eC]; simp
      have eN : bndMost t (p, false) = (pk t p - 48, takeS t 125 (p + 1, false)) := by
        unfold bndMost; rw [eK]; simp only []; rw [eC]; simp
      by_cases hz : pk t (p + 1) = 125
      · right
        have eZ := take_hit (t := t) (s := (p + 1, false)) hz
        have eS : bracesS t (p, false) = ((pk t p - 48, pk t p - 48), (p + 2, false)) := by
          unfold bracesS; rw [eM, eD]; simp only []; rw [eZ]; rw [if_neg (by simp)]
        rw [eS]
        refine ⟨?_, rfl⟩
        rw [Prod.ext_iff, eB1, eB2, eN, eZ]
        exact ⟨rfl, rfl⟩
      · left
        have eZ := take_miss (t := t) (s := (p + 1, false)) hz
        refine ⟨?_, ?_⟩
        · unfold bracesS; rw [eM, eD]; simp only []; rw [eZ]; rw [if_pos (Or.inl rfl)]; rfl
        · rw [eB1, eN, eZ]; rfl
  · left
    have eD := dig_bad (t := t) (s := (p, false)) hd
    refine ⟨?_, ?_⟩
    · have eM : (mostS t (p, false)).2 = failS t := by
        unfold mostS; rw [eD]; simp only []; rw [take_fail (by omega)]; simp
      unfold bracesS; rw [eM, take_fail (by omega), if_pos (Or.inl rfl)]; rfl
    · by_cases hp : p < t.size
      · have eK := tk_lt (s := (p, false)) hp
        unfold bndR; rw [eK]; simp only []; rw [if_pos (by omega)]; rfl
      · have eK := tk_end (s := (p, false)) hp
        unfold bndR; rw [eK]; simp only []; rw [if_pos (by omega)]; rfl

/-- A repeat. -/
theorem sync_repeat {t : ByteArray} {p : Nat} (h : repS t (p, false) = true) :
    ((repeatS t (p, false)).2 = (t.size, true) ∧ (repR t (p, false)).2.2 = true) ∨ (repeatS t (p, false) = repR t (p, false) ∧ (repeatS t (p, false)).2.2 = false) := by
  have hp := repS_lt h
  have e1 := next_lt (s := (p, false)) hp
  have e2 := tk_lt (s := (p, false)) hp
  simp only [repS, Bool.or_eq_true, beq_iff_eq] at h
  unfold repeatS repR
  rw [e1, e2]
  simp only []
  by_cases h1 : pk t p = 42
  · right
    rw [h1]
    exact ⟨rfl, rfl⟩
  by_cases h2 : pk t p = 43
  · right
    rw [h2]
    exact ⟨rfl, rfl⟩
  by_cases h3 : pk t p = 63
  · right
    rw [h3]
    exact ⟨rfl, rfl⟩
  · have h4 : pk t p = 123 := by omega
    rw [if_neg h1, if_neg h2, if_neg h3, if_neg h2, if_neg h3, if_pos h4]
    exact sync_braces hp

end Go.Proofs.Ytpnjeefgpaiidaa

set_option linter.unusedVariables false
set_option linter.unusedSimpArgs false
namespace Go.Proofs.Ytpnjeefgpaiidaa
open Go.RowKit Go.IntWalk

def cap61 (x : Int) : Int := if 61 < x then 61 else x
def WfP (ps : List PN) : Prop := ∀ (i : Nat) (p : PN), ps[i]? = some p → ∀ k, k ∈ p.kids → k < i
def T (ps : List PN) (j : Nat) : Int := sizeG ps (j + 1) j
def sumT (ps : List PN) (l : List Nat) : Int := l.foldl (fun n k => wrap64 (n + T ps k)) 0

theorem sizeAt_app {ns more : List AN} {i : Nat} (h : i < ns.length) : sizeAt (ns ++ more) i = sizeAt ns i := by
  unfold sizeAt; rw [List.getElem?_append_left h]
theorem sizeAt_new {ns : List AN} {n : AN} : sizeAt (ns ++ [capN n]) ns.length = cap61 n.size := by
  unfold sizeAt cap61; simp [capN]
theorem foldl_same {f g : Nat → Int} : ∀ (l : List Nat) (n : Int), (∀ k, k ∈ l → f k = g k) → l.foldl (fun n k => wrap64 (n + f k)) n = l.foldl (fun n k => wrap64 (n + g k)) n
  | [], _, _ => rfl
  | x :: r, n, h => by
    rw [List.foldl_cons, List.foldl_cons, h x (by simp)]
    exact foldl_same r _ (fun k hk => h k (by simp [hk]))
theorem sizeG_app {ps more : List PN} (hw : WfP ps) : ∀ (f i : Nat), i < ps.length → sizeG (ps ++ more) f i = sizeG ps f i
  | 0, _, _ => rfl
  | f + 1, i, hi => by
    rw [sizeG, sizeG, List.getElem?_append_left hi]
    cases hp : ps[i]? with
    | none => rfl
    | some p =>
      simp only []
      congr 1
      exact foldl_same _ _ (fun k hk => sizeG_app hw f k (by have := hw i p hp k hk; omega))
theorem T_app {ps more : List PN} (hw : WfP ps) {i : Nat} (hi : i < ps.length) : T (ps ++ more) i = T ps i := sizeG_app hw _ _ hi
theorem sumT_app {ps more : List PN} (hw : WfP ps) {l : List Nat} (hl : ∀ k, k ∈ l → k < ps.length) : sumT (ps ++ more) l = sumT ps l :=
  foldl_same _ _ (fun k hk => T_app hw (hl k hk))
theorem WfP.push {ps : List PN} {p : PN} (hw : WfP ps) (hl : ∀ k, k ∈ p.kids → k < ps.length) : WfP (ps ++ [p]) := by
  intro i q hq k hk
  by_cases hi : i < ps.length
  · rw [List.getElem?_append_left hi] at hq; exact hw i q hq k hk
  · have hi2 : i = ps.length := by
      have := (List.getElem?_eq_some_iff.1 hq).1
      simp at this; omega
    subst hi2
    rw [List.getElem?_append_right (Nat.le_refl _), Nat.sub_self] at hq
    simp at hq
    subst hq
    exact hl k hk
theorem T_new {ps : List PN} {p : PN} (hw : WfP ps) (hl : ∀ k, k ∈ p.kids → k < ps.length) : T (ps ++ [p]) ps.length = sizeK p (sumT ps p.kids) := by
  unfold T
  rw [sizeG]
  simp only [List.getElem?_append_right (Nat.le_refl _), Nat.sub_self, List.getElem?_cons_zero]
  congr 1
  exact foldl_same _ _ (fun k hk => by
    rw [sizeG_app hw _ _ (hl k hk)]
    exact sizeG_more ps hw _ _ k (hl k hk) (Nat.lt_succ_self _))
theorem sumT_snoc {ps : List PN} {l : List Nat} {k : Nat} : sumT ps (l ++ [k]) = wrap64 (sumT ps l + T ps k) := by
  unfold sumT; rw [List.foldl_append]; rfl

/- BOUNDS: x * 2^d ≤ 5^d. -/
def Bd (x : Int) (d : Nat) : Prop := 1 ≤ x ∧ x * 2 ^ d ≤ 5 ^ d
theorem pow_pos5 (d : Nat) : (0 : Int) < 5 ^ d := Int.pow_pos (by omega)
theorem pow_pos2 (d : Nat) : (0 : Int) < 2 ^ d := Int.pow_pos (by omega)
theorem two_five (d : Nat) : (2 : Int) ^ d ≤ 5 ^ d := by
  induction d with
  | zero => decide
  | succ n ih => rw [Int.pow_succ, Int.pow_succ]; have := pow_pos5 n; have := pow_pos2 n; omega
theorem two_five1 (d : Nat) (h : 1 ≤ d) : 5 * (2 : Int) ^ d ≤ 2 * 5 ^ d := by
  obtain ⟨n, rfl⟩ : ∃ n, d = n + 1 := ⟨d - 1, by omega⟩
  rw [Int.pow_succ, Int.pow_succ]
  have := two_five n; omega
theorem Bd.one (d : Nat) : Bd 1 d := ⟨Int.le_refl _, by rw [Int.one_mul]; exact two_five d⟩
theorem Bd.small {x : Int} {d : Nat} (h : Bd x d) (hd : d ≤ 40) : x ≤ 8271806125530276 := by
  obtain ⟨h1, h2⟩ := h
  obtain ⟨c, hc⟩ : ∃ c, 40 = d + c := ⟨40 - d, by omega⟩
  have e : x * 2 ^ 40 ≤ 5 ^ 40 := by
    rw [hc, Int.pow_add, Int.pow_add, ← Int.mul_assoc]
    exact Int.mul_le_mul h2 (two_five c) (Int.le_of_lt (pow_pos2 c)) (Int.le_of_lt (pow_pos5 d))
  have e2 : (2 : Int) ^ 40 = 1099511627776 := by decide
  have e5 : (5 : Int) ^ 40 = 9094947017729282379150390625 := by decide
  rw [e2, e5] at e
  omega
theorem Bd.mul {x k : Int} {d c : Nat} (h : Bd x d) (hk : Bd k c) : Bd (x * k) (d + c) := by
  obtain ⟨h1, h2⟩ := h
  obtain ⟨h3, h4⟩ := hk
  refine ⟨?_, ?_⟩
  · have := Int.mul_le_mul h1 h3 (by omega) (by omega : (0 : Int) ≤ x); omega
  · have e : x * k * 2 ^ (d + c) = (x * 2 ^ d) * (k * 2 ^ c) := by rw [Int.pow_add]; ac_rfl
    rw [e, Int.pow_add]
    exact Int.mul_le_mul h2 h4 (Int.mul_nonneg (by omega) (Int.le_of_lt (pow_pos2 c))) (Int.le_of_lt (pow_pos5 d))
theorem sum_le {x y A B C D : Int} (hx : x * C ≤ A) (hy : y * D ≤ B) (hC : 0 < C) (hD : 0 < D) : (x + y) * (C * D) ≤ A * D + B * C := by
  have e : (x + y) * (C * D) = (x * C) * D + (y * D) * C := by rw [Int.add_mul]; congr 1 <;> ac_rfl
  rw [e]
  have h1 := Int.mul_le_mul_of_nonneg_right hx (Int.le_of_lt hD)
  have h2 := Int.mul_le_mul_of_nonneg_right hy (Int.le_of_lt hC)
  omega
theorem Bd.add {x y : Int} {a b : Nat} (hx : Bd x a) (hy : Bd y b) (ha : 1 ≤ a) (hb : 1 ≤ b) : Bd (x + y) (a + b) := by
  refine ⟨by have := hx.1; have := hy.1; omega, ?_⟩
  rw [Int.pow_add, Int.pow_add]
  have h := sum_le hx.2 hy.2 (pow_pos2 a) (pow_pos2 b)
  have h1 := Int.mul_le_mul_of_nonneg_left (two_five1 b hb) (Int.le_of_lt (pow_pos5 a))
  have h2 := Int.mul_le_mul_of_nonneg_left (two_five1 a ha) (Int.le_of_lt (pow_pos5 b))
  have e1 : (5 : Int) ^ a * (5 * 2 ^ b) = 5 * (5 ^ a * 2 ^ b) := by ac_rfl
  have e2 : (5 : Int) ^ a * (2 * 5 ^ b) = 2 * (5 ^ a * 5 ^ b) := by ac_rfl
  have e3 : (5 : Int) ^ b * (5 * 2 ^ a) = 5 * (5 ^ b * 2 ^ a) := by ac_rfl
  have e4 : (5 : Int) ^ b * (2 * 5 ^ a) = 2 * (5 ^ a * 5 ^ b) := by ac_rfl
  rw [e1, e2] at h1
  rw [e3, e4] at h2
  have h3 := Int.mul_pos (pow_pos5 a) (pow_pos5 b)
  omega
theorem Bd.or {x y : Int} {a b : Nat} (hx : Bd x a) (hy : Bd y b) : Bd (x + y) (a + b + 1) := by
  refine ⟨by have := hx.1; have := hy.1; omega, ?_⟩
  rw [Int.pow_succ, Int.pow_succ, Int.pow_add, Int.pow_add]
  have h := sum_le hx.2 hy.2 (pow_pos2 a) (pow_pos2 b)
  have h1 := Int.mul_le_mul_of_nonneg_left (two_five b) (Int.le_of_lt (pow_pos5 a))
  have h2 := Int.mul_le_mul_of_nonneg_left (two_five a) (Int.le_of_lt (pow_pos5 b))
  have e4 : (5 : Int) ^ b * 5 ^ a = 5 ^ a * 5 ^ b := by ac_rfl
  rw [e4] at h2
  have h3 := Int.mul_pos (pow_pos5 a) (pow_pos5 b)
  have e5 : (x + y) * (2 ^ a * 2 ^ b * 2) = 2 * ((x + y) * (2 ^ a * 2 ^ b)) := by ac_rfl
  rw [e5]
  omega
theorem Bd.more {x : Int} {d c : Nat} (h : Bd x d) : Bd x (d + c) := by have := h.mul (Bd.one c); rwa [Int.mul_one] at this

theorem cap_add (x y : Int) (hx : 1 ≤ x) (hy : 1 ≤ y) : cap61 (cap61 x + cap61 y) = cap61 (x + y) := by unfold cap61; repeat' split
                                                                                                        all_goals omega
theorem cap_mul (x k : Int) (hx : 1 ≤ x) (hk : 1 ≤ k) : cap61 (cap61 x * k) = cap61 (x * k) := by
  by_cases h : 61 < x
  · have e : cap61 x = 61 := if_pos h
    rw [e]
    have h1 : x ≤ x * k := by have := Int.mul_le_mul_of_nonneg_left hk (by omega : (0 : Int) ≤ x); omega
    have h2 : 61 ≤ 61 * k := by omega
    unfold cap61
    rw [if_pos (show 61 < x * k by omega)]
    split
    · rfl
    · omega
  · have e : cap61 x = x := if_neg h
    rw [e]

end Go.Proofs.Ytpnjeefgpaiidaa

set_option linter.unusedVariables false
set_option linter.unusedSimpArgs false
namespace Go.Proofs.Ytpnjeefgpaiidaa
open Go.RowKit Go.IntWalk

abbrev Rel := Nat → Nat → Prop
def oneR (p : PN) (fold : Bool) (t : ByteArray) : Rel := fun i j => j = i + 1 ∧ ∃ h : i < t.size, inB p fold t[i].toNat = true
def thenR (n : Nat) (R S : Rel) : Rel := fun i j => ∃ p, p < n + 1 ∧ i ≤ p ∧ p ≤ j ∧ R i p ∧ S p j
def eithR (R S : Rel) : Rel := fun i j => i ≤ j ∧ (R i j ∨ S i j)
def seqR (n : Nat) (R : Nat → Rel) (l : List Nat) : Rel := l.foldl (fun S k => thenR n S (R k)) (fun i j => i = j)
def altR (R : Nat → Rel) (l : List Nat) : Rel := l.foldl (fun S k => eithR S (R k)) (fun _ _ => False)
def timesB (n : Nat) (R : Nat → Rel) (p : PN) : Rel :=
  match p.kids with
  | [] => fun _ _ => False
  | k :: _ => TimesR (R k) (n + 1) p.least.toNat p.most
def bodyR (fold : Bool) (t : ByteArray) (R : Nat → Rel) (p : PN) : Rel :=
  if p.kind = 1 then oneR p fold t
  else if p.kind = 2 then fun i j => i = 0 ∧ j = 0
  else if p.kind = 3 then fun i j => i = t.size ∧ j = t.size
  else if p.kind = 4 then seqR t.size R p.kids
  else if p.kind = 5 then altR R p.kids
  else timesB t.size R p
def MatF (ps : List PN) (fold : Bool) (t : ByteArray) : Nat → Nat → Rel
  | 0, _ => fun _ _ => False
  | f + 1, k => match ps[k]? with
    | none => fun _ _ => False
    | some p => bodyR fold t (MatF ps fold t f) p
def MatR (ps : List PN) (fold : Bool) (t : ByteArray) (k : Nat) : Rel := MatF ps fold t (k + 1) k

theorem foldR_same {α β : Type} {f g : α → β → α} : ∀ (l : List β) (a : α), (∀ x, x ∈ l → ∀ y, f y x = g y x) → l.foldl f a = l.foldl g a
  | [], _, _ => rfl
  | x :: l, a, h => by
    rw [List.foldl_cons, List.foldl_cons, h x (by simp)]
    exact foldR_same l _ (fun z hz y => h z (by simp [hz]) y)
theorem seqR_congr {n : Nat} {R R' : Nat → Rel} {l : List Nat} (h : ∀ k, k ∈ l → R k = R' k) : seqR n R l = seqR n R' l :=
  foldR_same l _ (fun k hk S => by rw [h k hk])
theorem altR_congr {R R' : Nat → Rel} {l : List Nat} (h : ∀ k, k ∈ l → R k = R' k) : altR R l = altR R' l :=
  foldR_same l _ (fun k hk S => by rw [h k hk])
theorem bodyR_congr {fold : Bool} {t : ByteArray} {R R' : Nat → Rel} {p : PN} (h : ∀ k, k ∈ p.kids → R k = R' k) : bodyR fold t R p = bodyR fold t R' p := by
  unfold bodyR
  rw [seqR_congr h, altR_congr h]
  have : timesB t.size R p = timesB t.size R' p := by
    unfold timesB
    cases hk : p.kids with
    | nil => rfl
    | cons k l => simp only []; rw [h k (by rw [hk]; simp)]
  rw [this]
theorem MatF_more {ps : List PN} {fold : Bool} {t : ByteArray} (hw : WfP ps) : ∀ (f g i : Nat), i < f → i < g → MatF ps fold t f i = MatF ps fold t g i
  | 0, _, _, h, _ => by omega
  | _ + 1, 0, _, _, h => by omega
  | f + 1, g + 1, i, h1, h2 => by
    rw [MatF, MatF]
    cases hp : ps[i]? with
    | none => rfl
    | some p =>
      simp only []
      exact bodyR_congr (fun k hk => by have := hw i p hp k hk; exact MatF_more hw f g k (by omega) (by omega))
theorem MatR_eq {ps : List PN} {fold : Bool} {t : ByteArray} (hw : WfP ps) {k : Nat} {p : PN} (hp : ps[k]? = some p) : MatR ps fold t k = bodyR fold t (MatR ps fold t) p := by
  show MatF ps fold t (k + 1) k = _
  rw [MatF, hp]
  simp only []
  refine bodyR_congr (fun j hj => ?_)
  have := hw k p hp j hj
  exact MatF_more hw k (j + 1) j this (Nat.lt_succ_self _)

theorem seqR_snoc {n : Nat} {R : Nat → Rel} {l : List Nat} {k : Nat} : seqR n R (l ++ [k]) = thenR n (seqR n R l) (R k) := by
  unfold seqR; rw [List.foldl_append]; rfl
theorem altR_snoc {R : Nat → Rel} {l : List Nat} {k : Nat} : altR R (l ++ [k]) = eithR (altR R l) (R k) := by
  unfold altR; rw [List.foldl_append]; rfl

section
variable {N : Nat} {M R : Rel}
theorem PowM.bd (hM : ∀ a b, M a b → a ≤ N ∧ b ≤ N ∧ a ≤ b) : ∀ {c i j : Nat}, PowM N M c i j → i ≤ N ∧ j ≤ N ∧ i ≤ j
  | 0, i, j, h => by simp only [PowM] at h; omega
  | c + 1, i, j, h => by
    simp only [PowM] at h
    obtain ⟨m, h1, h2⟩ := h
    have := PowM.bd hM h1
    have := hM _ _ h2
    omega
theorem PowM.add (hM : ∀ a b, M a b → a ≤ N ∧ b ≤ N ∧ a ≤ b) {a : Nat} : ∀ {b i j : Nat}, PowM N M (a + b) i j ↔ ∃ p, PowM N M a i p ∧ PowM N M b p j
  | 0, i, j => by
    constructor
    · intro h; exact ⟨j, h, rfl, (PowM.bd hM h).2.1⟩
    · rintro ⟨p, h1, rfl, _⟩; exact h1
  | b + 1, i, j => by
    show (∃ m, PowM N M (a + b) i m ∧ M m j) ↔ ∃ p, PowM N M a i p ∧ ∃ m, PowM N M b p m ∧ M m j
    constructor
    · rintro ⟨m, h1, h2⟩
      obtain ⟨p, h3, h4⟩ := (PowM.add hM).1 h1
      exact ⟨p, h3, m, h4, h2⟩
    · rintro ⟨p, h3, m, h4, h2⟩
      exact ⟨m, (PowM.add hM).2 ⟨p, h3, h4⟩, h2⟩
theorem PowM.cons (hM : ∀ a b, M a b → a ≤ N ∧ b ≤ N ∧ a ≤ b) {c i p j : Nat} (h1 : M i p) (h2 : PowM N M c p j) : PowM N M (c + 1) i j := by
  rw [Nat.add_comm]
  exact (PowM.add hM).2 ⟨p, ⟨i, ⟨rfl, (hM _ _ h1).1⟩, h1⟩, h2⟩

theorem pow_same (hM : ∀ a b, M a b → a ≤ N ∧ b ≤ N ∧ a ≤ b) (hR : ∀ a b, a ≤ N → b ≤ N → (R a b ↔ M a b)) : ∀ (c i j : Nat), i ≤ N → j ≤ N → (PowR R (N + 1) c i j ↔ PowM N M c i j)
  | 0, i, j, hi, hj => by simp only [PowR, PowM]; constructor; · intro h; exact ⟨h, hi⟩
                          · intro h; exact h.1
  | c + 1, i, j, hi, hj => by
    simp only [PowR, PowM]
    constructor
    · rintro ⟨p, h1, _, _, h2, h3⟩; exact ⟨p, (pow_same hM hR c i p hi (by omega)).1 h2, (hR p j (by omega) hj).1 h3⟩
    · rintro ⟨p, h2, h3⟩
      have b1 := PowM.bd hM h2
      have b2 := hM _ _ h3
      exact ⟨p, by omega, b1.2.2, b2.2.2, (pow_same hM hR c i p hi b1.2.1).2 h2, (hR p j b1.2.1 hj).2 h3⟩
theorem star_same (hM : ∀ a b, M a b → a ≤ N ∧ b ≤ N ∧ a ≤ b) (hR : ∀ a b, a ≤ N → b ≤ N → (R a b ↔ M a b)) {i j : Nat} (hi : i ≤ N) (hj : j ≤ N) : Star R (N + 1) i j ↔ ∃ c, PowM N M c i j := by
  constructor
  · rintro ⟨k, h⟩
    have : ∀ {k i j : Nat}, Hops R (N + 1) k i j → i ≤ N → ∃ c, PowM N M c i j := by
      intro k i j h
      induction h with
      | refl h => intro hi; exact ⟨0, rfl, hi⟩
      | @step k i m j h0 h1 h2 ih =>
        intro hi
        have := h2.bound
        obtain ⟨c, hc⟩ := ih (by omega)
        exact ⟨c + 1, PowM.cons hM ((hR i m hi (by omega)).1 h0) hc⟩
    exact this h hi
  · rintro ⟨c, h⟩
    have : ∀ (c : Nat) {j : Nat}, j ≤ N → PowM N M c i j → Star R (N + 1) i j := by
      intro c
      induction c with
      | zero => rintro j hj ⟨rfl, _⟩; exact ⟨0, Hops.refl (by omega)⟩
      | succ c ih =>
        rintro j hj ⟨m, h1, h2⟩
        have b1 := PowM.bd hM h1
        have b2 := hM _ _ h2
        have s1 := ih b1.2.1 h1
        by_cases hmj : m = j
        · rw [← hmj]; exact s1
        · exact s1.app ⟨1, Hops.step ((hR m j b1.2.1 hj).2 h2) (by omega) (Hops.refl (by omega))⟩
    exact this c hj h
theorem times_same (hM : ∀ a b, M a b → a ≤ N ∧ b ≤ N ∧ a ≤ b) (hR : ∀ a b, a ≤ N → b ≤ N → (R a b ↔ M a b)) {least most : Int} (h0 : 0 ≤ least) (hm : most = -1 ∨ least ≤ most) {i j : Nat} (hi : i ≤ N) (hj : j ≤ N) :
    TimesR R (N + 1) least.toNat most i j ↔ ∃ c : Nat, least ≤ (c : Int) ∧ (most = -1 ∨ (c : Int) ≤ most) ∧ PowM N M c i j := by
  unfold TimesR
  constructor
  · rintro (⟨h1, p, h2, h3, h4, h5, h6⟩ | ⟨h1, h2⟩)
    · obtain ⟨c, hc⟩ := (star_same hM hR (by omega) hj).1 h6
      exact ⟨least.toNat + c, by omega, Or.inl (by omega), (PowM.add hM).2 ⟨p, (pow_same hM hR _ i p hi (by omega)).1 h5, hc⟩⟩
    · rcases h2 with h2 | ⟨m, h2, h3, h4⟩
      · exact ⟨least.toNat, by omega, by omega, (pow_same hM hR _ i j hi hj).1 h2⟩
      · exact ⟨m, by omega, by omega, (pow_same hM hR _ i j hi hj).1 h4⟩
  · rintro ⟨c, h1, h2, h3⟩
    by_cases hneg : most < 0
    · left
      refine ⟨hneg, ?_⟩
      obtain ⟨d, rfl⟩ : ∃ d, c = least.toNat + d := ⟨c - least.toNat, by omega⟩
      obtain ⟨p, h4, h5⟩ := (PowM.add hM).1 h3
      have b1 := PowM.bd hM h4
      have b2 := PowM.bd hM h5
      exact ⟨p, by omega, b1.2.2, b2.2.2, (pow_same hM hR _ i p hi b1.2.1).2 h4, (star_same hM hR b1.2.1 hj).2 ⟨d, h5⟩⟩
    · right
      refine ⟨by omega, ?_⟩
      have h4 := (pow_same hM hR c i j hi hj).2 h3
      by_cases hc : c = least.toNat
      · left; rw [← hc]; exact h4
      · right; exact ⟨c, by omega, by omega, h4⟩
end

/-- A part that is in order, with all that it is made of. -/
inductive GoodT (ps : List PN) : Nat → Prop
  | leaf {j : Nat} {p : PN} : ps[j]? = some p → (p.kind = 1 ∨ p.kind = 2 ∨ p.kind = 3) → GoodT ps j
  | many {j : Nat} {p : PN} : ps[j]? = some p → (p.kind = 4 ∨ p.kind = 5) → (∀ k, k ∈ p.kids → GoodT ps k) → GoodT ps j
  | times {j k : Nat} {p : PN} : ps[j]? = some p → p.kind = 6 → p.kids = [k] → GoodT ps k → 0 ≤ p.least → p.least ≤ 9 → -1 ≤ p.most → p.most ≤ 9 → GoodT ps j
theorem at_more {α : Type} {l m : List α} {i : Nat} {x : α} (h : l[i]? = some x) : (l ++ m)[i]? = some x := by
  rw [List.getElem?_append_left (List.getElem?_eq_some_iff.1 h).1]; exact h
theorem GoodT.app {ps : List PN} {j : Nat} (h : GoodT ps j) (mp : List PN) : GoodT (ps ++ mp) j := by
  induction h with
  | leaf h1 h2 => exact GoodT.leaf (at_more h1) h2
  | many h1 h2 _ ih => exact GoodT.many (at_more h1) h2 ih
  | times h1 h2 h3 _ h4 h5 h6 h7 ih => exact GoodT.times (at_more h1) h2 h3 ih h4 h5 h6 h7

theorem at_new {α : Type} {l m : List α} {x : α} : (l ++ [x] ++ m)[l.length]? = some x := by
  rw [List.append_assoc, List.getElem?_append_right (Nat.le_refl _), Nat.sub_self]; rfl

/-- The part and the node match the same, in whatever longer lists they stand. -/
structure Same (ns : List AN) (i : Nat) (ps : List PN) (j : Nat) : Prop where
  iff : ∀ (mn : List AN) (mp : List PN), WfP (ps ++ mp) → ∀ (fold : Bool) (t : ByteArray) (a b : Nat), a ≤ t.size → b ≤ t.size → (MatR (ps ++ mp) fold t j a b ↔ Mat (ns ++ mn) fold t i a b)
  good : GoodT ps j
/-- Many of them, one behind the other (kind 4), or one of them (kind 5), and the node. -/
def listR (kind : Int) (n : Nat) (R : Nat → Rel) (l : List Nat) : Rel := if kind = 4 then seqR n R l else altR R l
structure SameL (kind : Int) (ns : List AN) (i : Nat) (ps : List PN) (l : List Nat) : Prop where
  iff : ∀ (mn : List AN) (mp : List PN), WfP (ps ++ mp) → ∀ (fold : Bool) (t : ByteArray) (a b : Nat), a ≤ t.size → b ≤ t.size → (listR kind t.size (MatR (ps ++ mp) fold t) l a b ↔ Mat (ns ++ mn) fold t i a b)
  good : ∀ k, k ∈ l → GoodT ps k

theorem Same.app {ns : List AN} {i : Nat} {ps : List PN} {j : Nat} (h : Same ns i ps j) (mn : List AN) (mp : List PN) : Same (ns ++ mn) i (ps ++ mp) j := ⟨fun mn2 mp2 hw fold t a b ha hb => by
  rw [List.append_assoc] at hw ⊢
  rw [List.append_assoc]
  exact h.iff _ _ hw fold t a b ha hb, h.good.app mp⟩
theorem SameL.app {kind : Int} {ns : List AN} {i : Nat} {ps : List PN} {l : List Nat} (h : SameL kind ns i ps l) (mn : List AN) (mp : List PN) : SameL kind (ns ++ mn) i (ps ++ mp) l := ⟨fun mn2 mp2 hw fold t a b ha hb => by
  rw [List.append_assoc] at hw ⊢
  rw [List.append_assoc]
  exact h.iff _ _ hw fold t a b ha hb, fun k hk => (h.good k hk).app mp⟩

/-- What a leaf and a part without kids have in common. -/
def LeafTie (n : AN) (x : PN) : Prop :=
  (n.kind = 1 ∧ x.kind = 1 ∧ ∀ (fold : Bool) (c : Nat), c < 256 → takesP n fold c = inB x fold c) ∨ (n.kind = 2 ∧ x.kind = 2) ∨ (n.kind = 3 ∧ x.kind = 3) ∨ (n.kind = 0 ∧ x.kind = 4 ∧ x.kids = [])
theorem Same.leaf {ns : List AN} {ps : List PN} {n : AN} {x : PN} (h : LeafTie n x) : Same (ns ++ [capN n]) ns.length (ps ++ [x]) ps.length := by
  refine ⟨?_, ?good⟩
  case good =>
    have hx0 : (ps ++ [x])[ps.length]? = some x := by have := at_new (l := ps) (x := x) (m := []); rwa [List.append_nil] at this
    rcases h with ⟨_, h, _⟩ | ⟨_, h⟩ | ⟨_, h⟩ | ⟨_, h, h2⟩
    · exact GoodT.leaf hx0 (Or.inl h)
    · exact GoodT.leaf hx0 (Or.inr (Or.inl h))
    · exact GoodT.leaf hx0 (Or.inr (Or.inr h))
    · exact GoodT.many hx0 (Or.inl h) (fun k hk => by rw [h2] at hk; cases hk)
  intro mn mp hw fold t a b ha hb
  have hn : (ns ++ [capN n] ++ mn)[ns.length]? = some (capN n) := at_new
  have hx : (ps ++ [x] ++ mp)[ps.length]? = some x := at_new
  have hkind : (capN n).kind = n.kind := rfl
  rw [MatR_eq hw hx]
  unfold bodyR
  rcases h with ⟨h1, h2, h3⟩ | ⟨h1, h2⟩ | ⟨h1, h2⟩ | ⟨h1, h2, h3⟩
  · rw [if_pos h2, Mat.one hn (by rw [hkind]; omega)]
    unfold Go1 oneR
    constructor
    · rintro ⟨h4, h5, h6⟩
      exact ⟨_, hn, Or.inl ⟨h1, h4, h5, (h3 fold _ t[a].toNat_lt).trans h6⟩⟩
    · rintro ⟨n', h4, h5⟩
      rw [hn] at h4
      simp only [Option.some.injEq] at h4
      subst h4
      rcases h5 with ⟨_, h5, h6, h7⟩ | ⟨h5, _⟩ | ⟨h5, _⟩
      · exact ⟨h5, h6, (h3 fold _ t[a].toNat_lt).symm.trans h7⟩
      · rw [hkind] at h5; omega
      · rw [hkind] at h5; omega
  · rw [if_neg (by omega), if_pos h2, Mat.one hn (by rw [hkind]; omega)]
    unfold Go1
    constructor
    · rintro h4; exact ⟨_, hn, Or.inr (Or.inl ⟨h1, h4⟩)⟩
    · rintro ⟨n', h4, h5⟩
      rw [hn] at h4
      simp only [Option.some.injEq] at h4
      subst h4
      rcases h5 with ⟨h5, _⟩ | ⟨_, h5⟩ | ⟨h5, _⟩
      · rw [hkind] at h5; omega
      · exact h5
      · rw [hkind] at h5; omega
  · rw [if_neg (by omega), if_neg (by omega), if_pos h2, Mat.one hn (by rw [hkind]; omega)]
    unfold Go1
    constructor
    · rintro h4; exact ⟨_, hn, Or.inr (Or.inr ⟨h1, h4⟩)⟩
    · rintro ⟨n', h4, h5⟩
      rw [hn] at h4
      simp only [Option.some.injEq] at h4
      subst h4
      rcases h5 with ⟨h5, _⟩ | ⟨h5, _⟩ | ⟨_, h5⟩
      · rw [hkind] at h5; omega
      · rw [hkind] at h5; omega
      · exact h5
  · rw [if_neg (by omega), if_neg (by omega), if_neg (by omega), if_pos h2, h3, Mat.zero hn h1]
    show a = b ↔ _
    exact ⟨fun h => ⟨h, ha⟩, fun h => h.1⟩

/-- A repeat. -/
theorem Same.times {ns : List AN} {ps : List PN} {i j : Nat} (h : Same ns i ps j) {n : AN} {x : PN} (hn : n.kind = 6) (hl : n.left = (i : Int)) (hx : x.kind = 6) (hk : x.kids = [j]) (e1 : n.least = x.least) (e2 : n.most = x.most) (h0 : 0 ≤ x.least) (h9 : x.least ≤ 9) (m0 : -1 ≤ x.most) (m9 : x.most ≤ 9) (hm : x.most = -1 ∨ x.least ≤ x.most) :
    Same (ns ++ [capN n]) ns.length (ps ++ [x]) ps.length := by
  refine ⟨?_, ?good⟩
  case good =>
    have hx0 : (ps ++ [x])[ps.length]? = some x := by have := at_new (l := ps) (x := x) (m := []); rwa [List.append_nil] at this
    exact GoodT.times hx0 hx hk (h.good.app _) h0 h9 m0 m9
  intro mn mp hw fold t a b ha hb
  have hn2 : (ns ++ [capN n] ++ mn)[ns.length]? = some (capN n) := at_new
  have hx2 : (ps ++ [x] ++ mp)[ps.length]? = some x := at_new
  rw [MatR_eq hw hx2, Mat.many hn2 hn hl]
  unfold bodyR
  rw [if_neg (by omega), if_neg (by omega), if_neg (by omega), if_neg (by omega), if_neg (by omega)]
  unfold timesB
  rw [hk]
  simp only []
  have hh := (h.app [capN n] [x]).iff mn mp hw fold t
  have := times_same (N := t.size) (M := Mat (ns ++ [capN n] ++ mn) fold t i) (R := MatR (ps ++ [x] ++ mp) fold t j) (fun a b h => h.le) (fun a b ha hb => hh a b ha hb) h0 hm ha hb
  rw [this]
  show _ ↔ ∃ c : Nat, n.least ≤ (c : Int) ∧ (n.most = -1 ∨ (c : Int) ≤ n.most) ∧ _
  rw [e1, e2]

/-- Lists of one, of one more. -/
theorem SameL.one {kind : Int} {ns : List AN} {i : Nat} {ps : List PN} {j : Nat} (h : Same ns i ps j) : SameL kind ns i ps [j] := by
  refine ⟨?_, fun k hk => by simp at hk; subst hk; exact h.good⟩
  intro mn mp hw fold t a b ha hb
  have hh := h.iff mn mp hw fold t a b ha hb
  unfold listR
  split
  · show thenR t.size (fun i j => i = j) (MatR (ps ++ mp) fold t j) a b ↔ _
    unfold thenR
    constructor
    · rintro ⟨p, h1, _, _, rfl, h2⟩; exact hh.1 h2
    · intro h1
      exact ⟨a, by omega, Nat.le_refl _, h1.le.2.2, rfl, hh.2 h1⟩
  · show eithR (fun _ _ => False) (MatR (ps ++ mp) fold t j) a b ↔ _
    unfold eithR
    constructor
    · rintro ⟨_, h1 | h1⟩
      · exact h1.elim
      · exact hh.1 h1
    · intro h1; exact ⟨h1.le.2.2, Or.inr (hh.2 h1)⟩
theorem SameL.next {kind : Int} (hkd : kind = 4 ∨ kind = 5) {ns : List AN} {i : Nat} {ps : List PN} {l : List Nat} {r : Nat} {j : Nat} (h : SameL kind ns i ps l) (h2 : Same ns r ps j) {n : AN} (hn : n.kind = kind) (hl : n.left = (i : Int)) (hr : n.right = (r : Int)) :
    SameL kind (ns ++ [capN n]) ns.length ps (l ++ [j]) := by
  refine ⟨?_, fun k hk => by
    rcases List.mem_append.1 hk with hk | hk
    · exact h.good k hk
    · simp at hk; subst hk; exact h2.good⟩
  intro mn mp hw fold t a b ha hb
  have hn2 : (ns ++ [capN n] ++ mn)[ns.length]? = some (capN n) := at_new
  have x1 := fun a b ha hb => h.iff ([capN n] ++ mn) mp hw fold t a b ha hb
  have x2 := fun a b ha hb => h2.iff ([capN n] ++ mn) mp hw fold t a b ha hb
  rw [← List.append_assoc] at x1 x2
  unfold listR at x1 ⊢
  rcases hkd with rfl | rfl
  · rw [if_pos rfl] at x1 ⊢
    rw [seqR_snoc, Mat.two hn2 hn hl hr]
    unfold thenR
    constructor
    · rintro ⟨p, h1, _, _, h3, h4⟩; exact ⟨p, (x1 a p ha (by omega)).1 h3, (x2 p b (by omega) hb).1 h4⟩
    · rintro ⟨p, h3, h4⟩
      have b1 := h3.le
      have b2 := h4.le
      exact ⟨p, by omega, b1.2.2, b2.2.2, (x1 a p ha b1.2.1).2 h3, (x2 p b b1.2.1 hb).2 h4⟩
  · rw [if_neg (by decide)] at x1 ⊢
    rw [altR_snoc, Mat.alt hn2 hn hl hr]
    unfold eithR
    constructor
    · rintro ⟨_, h1 | h1⟩
      · exact Or.inl ((x1 a b ha hb).1 h1)
      · exact Or.inr ((x2 a b ha hb).1 h1)
    · rintro (h1 | h1)
      · exact ⟨h1.le.2.2, Or.inl ((x1 a b ha hb).2 h1)⟩
      · exact ⟨h1.le.2.2, Or.inr ((x2 a b ha hb).2 h1)⟩
theorem SameL.fin {kind : Int} (hkd : kind = 4 ∨ kind = 5) {ns : List AN} {i : Nat} {ps : List PN} {l : List Nat} (h : SameL kind ns i ps l) {x : PN} (hx : x.kind = kind) (hk : x.kids = l) : Same ns i (ps ++ [x]) ps.length := by
  refine ⟨?_, ?good⟩
  case good =>
    have hx0 : (ps ++ [x])[ps.length]? = some x := by have := at_new (l := ps) (x := x) (m := []); rwa [List.append_nil] at this
    exact GoodT.many hx0 (by rw [hx]; exact hkd) (fun k hkk => by rw [hk] at hkk; exact (h.good k hkk).app _)
  intro mn mp hw fold t a b ha hb
  have hx2 : (ps ++ [x] ++ mp)[ps.length]? = some x := at_new
  rw [MatR_eq hw hx2]
  have x1 := h.iff mn ([x] ++ mp) (by rw [← List.append_assoc]; exact hw) fold t a b ha hb
  rw [← List.append_assoc] at x1
  unfold listR at x1
  unfold bodyR
  rcases hkd with rfl | rfl
  · rw [if_pos rfl] at x1
    rw [if_neg (by omega), if_neg (by omega), if_neg (by omega), if_pos hx, hk]
    exact x1
  · rw [if_neg (by decide)] at x1
    rw [if_neg (by omega), if_neg (by omega), if_neg (by omega), if_neg (by omega), if_pos hx, hk]
    exact x1

end Go.Proofs.Ytpnjeefgpaiidaa

set_option linter.unusedVariables false
set_option linter.unusedSimpArgs false
namespace Go.Proofs.Ytpnjeefgpaiidaa
open Go.RowKit Go.IntWalk

set_option maxHeartbeats 4000000 in
set_option maxRecDepth 100000 in
theorem matched_one (w : World) (F : Nat → Prop) (adrs : List Nat) (p : PN) (a : Nat) (iv kv : IV) (h : PartOk w F adrs p a iv kv) (hF : ∀ k, F k → k < w.heap.size) (hk : p.kind = 1) (fold : Bool) (t : ByteArray) (ht : t.size ≤ 1000) :
    TabCall 69 #[.pointer (some ⟨a, 0, none⟩), .bool fold, .string t] t.size w (oneR p fold t) := by
  have c0 : w.cell? ⟨a, 0, none⟩ = some (.int .i64 1) := by rw [← hk]; exact h.blk.cell 0
  have hnone := none_of t.size (by omega) w
  unfold TabCall at hnone
  unfold TabCall
  go_enter Try.func69, Try.ntmps69
  go_wp2_with fail
  refine hnone.mono ?_
  rintro e w1 ⟨v, rfl, ⟨⟨rows, M, hlen, htab, hM⟩⟩, k1⟩
  clear hnone c0
  obtain ⟨k, cap, rfl, _, _⟩ := htab.head (by omega)
  rw [hlen] at htab ⊢
  have hlenH : Hid (_ = _) := hlen
  clear hlen
  go_wp2_with fail
  go_loopw [9] (fun iv wr => ∃ q : Nat, iv = .int .i64 (q : Int) ∧ q ≤ t.size ∧ (∃ M, Tab wr w.heap.size (.slice (some ⟨k, 0, none⟩) (t.size + 1) cap) (t.size + 1) rows M ∧ ∀ i j, i < t.size + 1 → j < t.size + 1 → (M i j = true ↔ i < q ∧ oneR p fold t i j)) ∧ Kept [] w wr) (fun iv _ => ((t.size : Int) - intOf iv).toNat)
  case atStart => exact ⟨0, rfl, Nat.zero_le _, ⟨M, htab, fun i j hi hj => by rw [hM i j hi hj]; simp⟩, k1⟩
  case round =>
    obtain ⟨q, rfl, hq, ⟨M1, htab1, hM1⟩, hkw⟩ := hrel
    clear htab hM k1
    have hM1H : Hid (∀ i j, _) := hM1
    clear hM1
    by_cases hlt : (q : Int) < (t.size : Int)
    · have hqt : q < t.size := by omega
      have hp1 : PartOk wr F adrs p a iv kv := h.frame (fun k hk => hkw.block k (hF k hk) (by simp))
      have hin : Hid (Calls _ _ _ _ _) := in_any wr.drew F adrs p a iv kv (hp1.frame (w' := wr.drew) (fun _ _ => rfl)) (by omega) fold t[q].toNat t[q].toNat_lt
      obtain ⟨g, hg⟩ : ∃ g, rows[q]? = some g := ⟨_, List.getElem?_eq_getElem (by rw [hlenH.out]; omega)⟩
      obtain ⟨k2, cap2, he, _, hcells⟩ := htab1.head (by rw [hlenH.out]; omega)
      simp only [Value.slice.injEq, Option.some.injEq, Addr.mk.injEq] at he
      obtain ⟨⟨rfl, _⟩, hl5, hl6⟩ := he
      clear hl5
      subst hl6
      have d1 := hcells q g hg
      unfold rowV at d1
      have d2 := htab1.cell hg (j := q + 1) (by omega)
      have d3 := htab1.frozen hg (q + 1)
      have hgb := htab1.base g (List.mem_iff_getElem?.2 ⟨q, hg⟩)
      have ht2 : Hid (Tab _ _ _ _ _ _) := htab1.set (M' := fun i j => if i = q ∧ j = q + 1 then inB p fold t[q].toNat else M1 i j) hg (q + 1) (inB p fold t[q].toNat) (fun _ _ _ _ => rfl)
      have hk2 : Hid (Kept [] w (wr.setCell ⟨g, q + 1, none⟩ (.bool (inB p fold t[q].toNat)))) := hkw.setCell (Or.inr hgb) _
      have hM2 : Hid (∀ i j, i < t.size + 1 → j < t.size + 1 → ((if i = q ∧ j = q + 1 then inB p fold t[q].toNat else M1 i j) = true ↔ i < q + 1 ∧ oneR p fold t i j)) := fun i j hi hj => by
        by_cases hij : i = q ∧ j = q + 1
        · rw [if_pos hij]
          obtain ⟨rfl, rfl⟩ := hij
          exact ⟨fun hx => ⟨by omega, rfl, hqt, hx⟩, fun hx => hx.2.2.2⟩
        · rw [if_neg hij, hM1H.out i j hi hj]
          constructor
          · rintro ⟨h1, h2⟩; exact ⟨by omega, h2⟩
          · rintro ⟨h1, h2⟩
            refine ⟨?_, h2⟩
            have : i ≠ q := fun hc => hij ⟨hc, by rw [h2.1, hc]⟩
            omega
      have l1 : (q : Int) < (t.size : Int) + 1 := by omega
      have e1 : IntKind.i64.wrap ((q : Int) + 1) = (q : Int) + 1 := by rw [IntKind.wrap_i64]; omega
      have e3 : IntKind.i64.wrap (t[q].toNat : Int) = (t[q].toNat : Int) := by have := t[q].toNat_lt; rw [IntKind.wrap_i64]; omega
      have l1 : (q : Int) < (t.size : Int) + 1 := by omega
      have l2 : (0 : Int) ≤ (q : Int) + 1 := by omega
      have l3 : (q : Int) + 1 < ((t.size + 1 : Nat) : Int) := by omega
      have l4 : (q : Int) + 1 < (t.size : Int) + 1 := by omega
      clear hg hcells htab1 hp1 hkw h
      generalize inB p fold t[q].toNat = Y at *
      go_wp2_with fail
      go_region_law (go_simp; go_at_call 97; refine hin.out.mono ?_; rintro _ _ ⟨rfl, rfl⟩)
      all_goals
        go_wp2
        go_roundw
        case rel => exact ⟨q + 1, by go_num, by omega, ⟨_, ht2.out.drew, hM2.out⟩, hk2.out.drew⟩
        case measure =>
          show ((t.size : Int) - ((q : Int) + 1)).toNat < ((t.size : Int) - (q : Int)).toNat
          omega
    · have hqe : q = t.size := by omega
      have hfin : Hid (TabOf wr w.heap.size (.slice (some ⟨k, 0, none⟩) (t.size + 1) cap) t.size (oneR p fold t)) := ⟨rows, M1, hlenH.out, htab1, fun i j hi hj => (hM1H.out i j hi hj).trans ⟨fun hx => hx.2, fun hx => ⟨by obtain ⟨_, h2, _⟩ := hx; omega, hx⟩⟩⟩
      have hkk : Hid (Kept _ _ _) := hkw
      clear htab1 hkw h
      go_wp2
      go_ret
      exact ⟨_, rfl, hfin.out, hkk.out⟩

end Go.Proofs.Ytpnjeefgpaiidaa
