/- For every pattern p, every line and every choice of Fold the law Again answers true: of a pattern without ^ and $ in it, (p)* matches a line whole just if the line is empty or falls into a first piece, not empty, that p matches whole, and the rest, that (p)* matches whole; (p)+ is p and (p)* behind it, (p)? is p or nothing, (p){2} is p and p; the sizes are those that the document says: no condition; nothing that was there before the call is changed. -/
import Derived.Test.YtgifhgnccmnbiaaG12
import Derived.Test.YtgifhgnccmnbiaaG13
import Derived.ProofKit
import Derived.OpenShut
import Derived.ShutString
set_option linter.unusedVariables false
set_option linter.unusedSimpArgs false
namespace Go.Proofs.Ytgifhgnccmnbiaa

/-- (p) with a repeat behind it, the closing bracket in the suffix. -/
def agT (p suf : ByteArray) : ByteArray := (bOpen ++ p) ++ suf
def agR (t : ByteArray) (rp : Nat × PS) (lm : Int × Int) : Nat × PS := againS (0 + rp.1) lm ((t.size, false), shL [] rp.2.2)

theorem agT_size (p suf : ByteArray) : (agT p suf).size = p.size + 1 + suf.size := by
  unfold agT
  simp only [ByteArray.size_append]
  have h1 : bOpen.size = 1 := rfl
  omega
theorem agT_pk (p suf : ByteArray) (i : Nat) : pk (agT p suf) (p.size + 1 + i) = pk suf i := by
  have hop : (bOpen ++ p).size = p.size + 1 := by rw [ByteArray.size_append]; have h1 : bOpen.size = 1 := rfl; omega
  have := pk_right (bOpen ++ p) suf i
  rw [hop] at this
  exact this

section
variable {p suf : ByteArray} {rp : Nat × PS} {lm : Int × Int} (hp : PatOk p rp) (h41 : pk suf 0 = 41)
  (hrep : repS (agT p suf) (p.size + 2, false) = true) (hlm : repeatS (agT p suf) (p.size + 2, false) = (lm, ((agT p suf).size, false)))
include hp h41 hrep hlm

theorem rep_deriv : D (agT p suf) 0 0 st0 (agR (agT p suf) rp lm) := by
  have h1 : bOpen.size = 1 := rfl
  have ep : Emb p (agT p suf) (0 + 1) := by
    have := emb_of bOpen p suf h41
    rw [h1] at this
    exact this
  have k0 : pk (agT p suf) 0 = 40 := by
    unfold agT
    rw [pk_left (by rw [ByteArray.size_append]; omega), pk_left (by omega)]
    rfl
  have kend : pk (agT p suf) (agT p suf).size = -1 := by rw [pk_none]; omega
  have g1 := grp k0 ep hp [] 0
  rw [show 0 + p.size + 2 = p.size + 2 by omega] at g1
  have d6 : D (agT p suf) 6 (0 + rp.1) ((p.size + 2, false), shL [] rp.2.2) (agR (agT p suf) rp lm) := by
    refine D.rep hrep ?_
    show D (agT p suf) 6 (againS (0 + rp.1) (repeatS (agT p suf) (p.size + 2, false)).1 ((repeatS (agT p suf) (p.size + 2, false)).2, shL [] rp.2.2)).1 (againS (0 + rp.1) (repeatS (agT p suf) (p.size + 2, false)).1 ((repeatS (agT p suf) (p.size + 2, false)).2, shL [] rp.2.2)).2 _
    rw [hlm]
    exact D.repEnd (st_rep kend (by omega))
  refine D.pattern (D.branch (by unfold endS; simp only [st0, k0]; rfl) (D.piece g1 d6) (D.andEnd ?_)) (D.orEnd ?_)
  · show endS (agT p suf) ((agT p suf).size, false) = true
    unfold endS; simp only [kend]; rfl
  · show (takeS (agT p suf) 124 ((agT p suf).size, false)).1 = false
    unfold takeS; rw [kend, if_neg (by omega)]

theorem rep_facts : Ev (agT p suf) 0 0 st0 (agR (agT p suf) rp lm) ∧ ¬ BadR (agT p suf) (agR (agT p suf) rp lm) ∧
    sizeAt (agR (agT p suf) rp lm).2.2 (agR (agT p suf) rp lm).1 = (if 61 < sizeAt rp.2.2 rp.1 * timesS lm.1 lm.2 then 61 else sizeAt rp.2.2 rp.1 * timesS lm.1 lm.2) ∧
    (∀ fold l i j, Mat (agR (agT p suf) rp lm).2.2 fold l (agR (agT p suf) rp lm).1 i j ↔ ∃ c, lm.1 ≤ ((c : Nat) : Int) ∧ (lm.2 = -1 ∨ (c : Int) ≤ lm.2) ∧ PowM l.size (Mat rp.2.2 fold l rp.1) c i j) ∧
    (NoAnch rp.2.2 → NoAnch (agR (agT p suf) rp lm).2.2) := by
  have op := hp.okay
  have tp := op.top
  have s1 := sh_sizeAt [] rp.2.2 rp.1
  have i1 : In rp.2.2 (agR (agT p suf) rp lm).2.2 0 := in_shL [] rp.2.2 _
  have hroot : (agR (agT p suf) rp lm).2.2[(agR (agT p suf) rp lm).1]? = some (capN { kind := 6, left := ((0 + rp.1 : Nat) : Int), least := lm.1, most := lm.2, size := sizeAt (shL [] rp.2.2) (0 + rp.1) * timesS lm.1 lm.2 }) := by
    simp [agR, againS, addS]
  refine ⟨(rep_deriv hp h41 hrep hlm).ev, ?_, ?_, fun fold l i j => ?_, fun hn m hm => ?_⟩
  · rintro (h | h)
    · exact nomatch (show false = true from h)
    · exact absurd (show (agT p suf).size < (agT p suf).size from h) (Nat.lt_irrefl _)
  · unfold sizeAt
    rw [hroot]
    simp only [Option.map_some, Option.getD_some, capN]
    rw [show sizeAt (shL [] rp.2.2) (0 + rp.1) = sizeAt rp.2.2 rp.1 from s1]
    rfl
  · rw [Mat.many hroot rfl rfl]
    have m1 := fun i j => Mat.emb op.ok i1 fold l (rp.1 + 1) rp.1 (by omega) (by omega) i j
    constructor
    · rintro ⟨c, h1, h2, h3⟩; exact ⟨c, h1, h2, (PowM.congr m1 c i j).1 h3⟩
    · rintro ⟨c, h1, h2, h3⟩; exact ⟨c, h1, h2, (PowM.congr m1 c i j).2 h3⟩
  · have hm2 : m ∈ shL [] rp.2.2 ++ [capN { kind := 6, left := ((0 + rp.1 : Nat) : Int), least := lm.1, most := lm.2, size := sizeAt (shL [] rp.2.2) (0 + rp.1) * timesS lm.1 lm.2 }] := hm
    rcases List.mem_append.1 hm2 with h | h
    · have h2 : m ∈ rp.2.2.map (shN 0) := by simpa [shL] using h
      obtain ⟨n, hn1, rfl⟩ := List.mem_map.1 h2
      exact hn n hn1
    · simp at h; subst h; exact ⟨by simp [capN], by simp [capN]⟩
theorem rep_case (k : Int) (hk : timesS lm.1 lm.2 = k) :
    (PatE (agT p suf) 3 ∧ (40 < (agT p suf).size ∨ 60 < sizeAt rp.2.2 rp.1 * k)) ∨ (PatOk (agT p suf) (agR (agT p suf) rp lm) ∧ sizeAt (agR (agT p suf) rp lm).2.2 (agR (agT p suf) rp lm).1 = sizeAt rp.2.2 rp.1 * k) := by
  obtain ⟨f1, f2, f3, _⟩ := rep_facts hp h41 hrep hlm
  rw [hk] at f3
  by_cases h1 : 40 < (agT p suf).size
  · exact Or.inl ⟨Or.inl ⟨h1, rfl⟩, Or.inl h1⟩
  · by_cases h2 : 60 < sizeAt rp.2.2 rp.1 * k
    · refine Or.inl ⟨Or.inr ⟨by omega, _, f1, Or.inr ⟨f2, ?_, rfl⟩⟩, Or.inr h2⟩
      rw [f3]; split <;> omega
    · have f4 : sizeAt (agR (agT p suf) rp lm).2.2 (agR (agT p suf) rp lm).1 = sizeAt rp.2.2 rp.1 * k := by rw [f3, if_neg (by omega)]
      exact Or.inr ⟨⟨by omega, f1, f2, by rw [f4]; omega⟩, f4⟩
end

def sStar : ByteArray := ⟨#[41, 42]⟩
def sPlus : ByteArray := ⟨#[41, 43]⟩
def sQuest : ByteArray := ⟨#[41, 63]⟩
def sTwo : ByteArray := ⟨#[41, 123, 50, 125]⟩
theorem one_sign (p suf : ByteArray) (c : Int) (h2 : suf.size = 2) (hc : pk suf 1 = c) (lm : Int × Int)
    (h : (c = 42 ∧ lm = (0, -1)) ∨ (c = 43 ∧ lm = (1, -1)) ∨ (c = 63 ∧ lm = (0, 1))) :
    repS (agT p suf) (p.size + 2, false) = true ∧ repeatS (agT p suf) (p.size + 2, false) = (lm, ((agT p suf).size, false)) := by
  have hk : pk (agT p suf) (p.size + 2) = c := by have := agT_pk p suf 1; rw [show p.size + 1 + 1 = p.size + 2 by omega] at this; rw [this, hc]
  have hs := agT_size p suf
  have hn : nextS (agT p suf) (p.size + 2, false) = (c, ((agT p suf).size, false)) := by
    unfold nextS
    simp only [hk]
    rw [if_neg (by omega), hs, h2]
  constructor
  · unfold repS
    simp only [hk]
    rcases h with ⟨rfl, _⟩ | ⟨rfl, _⟩ | ⟨rfl, _⟩ <;> decide
  · unfold repeatS
    rw [hn]
    rcases h with ⟨rfl, rfl⟩ | ⟨rfl, rfl⟩ | ⟨rfl, rfl⟩ <;> simp
theorem two_sign (p : ByteArray) : repS (agT p sTwo) (p.size + 2, false) = true ∧ repeatS (agT p sTwo) (p.size + 2, false) = ((2, 2), ((agT p sTwo).size, false)) := by
  have k1 : pk (agT p sTwo) (p.size + 2) = 123 := by have := agT_pk p sTwo 1; rw [show p.size + 1 + 1 = p.size + 2 by omega] at this; rw [this]; rfl
  have k2 : pk (agT p sTwo) (p.size + 3) = 50 := by have := agT_pk p sTwo 2; rw [show p.size + 1 + 2 = p.size + 3 by omega] at this; rw [this]; rfl
  have k3 : pk (agT p sTwo) (p.size + 4) = 125 := by have := agT_pk p sTwo 3; rw [show p.size + 1 + 3 = p.size + 4 by omega] at this; rw [this]; rfl
  have hs : (agT p sTwo).size = p.size + 5 := by rw [agT_size]; have h4 : sTwo.size = 4 := rfl; omega
  have n1 : nextS (agT p sTwo) (p.size + 2, false) = (123, (p.size + 3, false)) := by unfold nextS; simp only [k1]; rfl
  have n2 : nextS (agT p sTwo) (p.size + 3, false) = (50, (p.size + 4, false)) := by unfold nextS; simp only [k2]; rfl
  have d1 : digS (agT p sTwo) (p.size + 3, false) = (2, (p.size + 4, false)) := by unfold digS; rw [n2]; rfl
  have t1 : takeS (agT p sTwo) 44 (p.size + 4, false) = (false, (p.size + 4, false)) := by unfold takeS; simp only [k3]; rfl
  have t2 : takeS (agT p sTwo) 125 (p.size + 4, false) = (true, (p.size + 5, false)) := by unfold takeS; simp only [k3]; rfl
  have m1 : mostS (agT p sTwo) (p.size + 3, false) = (2, (p.size + 4, false)) := by unfold mostS; rw [d1]; simp only []; rw [t1]; rfl
  constructor
  · unfold repS; simp only [k1]; decide
  · unfold repeatS
    rw [n1, hs]
    simp only []
    rw [if_neg (by omega), if_neg (by omega), if_neg (by omega)]
    unfold bracesS
    rw [m1, d1]
    simp only []
    rw [t2]
    rfl

/- MANY TIMES. -/
section
variable {N : Nat} {R : Nat → Nat → Prop} (hR : ∀ i j, R i j → i ≤ N ∧ j ≤ N ∧ i ≤ j)
include hR
theorem pow_cons : ∀ c i j, PowM N R (c + 1) i j ↔ ∃ m, R i m ∧ PowM N R c m j
  | 0, i, j => by
    simp only [PowM]
    constructor
    · rintro ⟨m, ⟨rfl, h1⟩, h2⟩; exact ⟨j, h2, rfl, (hR _ _ h2).2.1⟩
    · rintro ⟨m, h1, rfl, h2⟩; exact ⟨i, ⟨rfl, (hR _ _ h1).1⟩, h1⟩
  | c + 1, i, j => by
    constructor
    · rintro ⟨m, h1, h2⟩
      obtain ⟨k, h3, h4⟩ := (pow_cons c i m).1 h1
      exact ⟨k, h3, m, h4, h2⟩
    · rintro ⟨k, h3, m, h4, h2⟩
      exact ⟨m, (pow_cons c i m).2 ⟨k, h3, h4⟩, h2⟩
theorem pow_star (i j : Nat) : (∃ c, PowM N R c i j) ↔ (i = j ∧ i ≤ N) ∨ ∃ m, i < m ∧ R i m ∧ ∃ c, PowM N R c m j := by
  constructor
  · rintro ⟨c, hc⟩
    induction c with
    | zero => exact Or.inl hc
    | succ c ih =>
      obtain ⟨m, h1, h2⟩ := (pow_cons hR c i j).1 hc
      by_cases hm : m = i
      · subst hm; exact ih h2
      · exact Or.inr ⟨m, by have := (hR _ _ h1).2.2; omega, h1, c, h2⟩
  · rintro (h | ⟨m, _, h1, c, h2⟩)
    · exact ⟨0, h⟩
    · exact ⟨c + 1, (pow_cons hR c i j).2 ⟨m, h1, h2⟩⟩
end

end Go.Proofs.Ytgifhgnccmnbiaa

set_option linter.unusedVariables false
set_option linter.unusedSimpArgs false
namespace Go.Proofs.Ytgifhgnccmnbiaa

theorem star_signs (p : ByteArray) : repS (agT p sStar) (p.size + 2, false) = true ∧ repeatS (agT p sStar) (p.size + 2, false) = ((0, -1), ((agT p sStar).size, false)) := one_sign p sStar 42 rfl rfl (0, -1) (Or.inl ⟨rfl, rfl⟩)
theorem plus_signs (p : ByteArray) : repS (agT p sPlus) (p.size + 2, false) = true ∧ repeatS (agT p sPlus) (p.size + 2, false) = ((1, -1), ((agT p sPlus).size, false)) := one_sign p sPlus 43 rfl rfl (1, -1) (Or.inr (Or.inl ⟨rfl, rfl⟩))
theorem quest_signs (p : ByteArray) : repS (agT p sQuest) (p.size + 2, false) = true ∧ repeatS (agT p sQuest) (p.size + 2, false) = ((0, 1), ((agT p sQuest).size, false)) := one_sign p sQuest 63 rfl rfl (0, 1) (Or.inr (Or.inr ⟨rfl, rfl⟩))

abbrev starR (p : ByteArray) (rp : Nat × PS) := agR (agT p sStar) rp (0, -1)
abbrev plusR (p : ByteArray) (rp : Nat × PS) := agR (agT p sPlus) rp (1, -1)
abbrev questR (p : ByteArray) (rp : Nat × PS) := agR (agT p sQuest) rp (0, 1)
abbrev twoR (p : ByteArray) (rp : Nat × PS) := agR (agT p sTwo) rp (2, 2)

section
variable {p : ByteArray} {rp : Nat × PS} (hp : PatOk p rp) (hn : ¬ Anch p p.size) (fold : Bool) (s : ByteArray)
include hp hn
theorem ag_pre {i : Nat} (hi : i ≤ s.size) : selB rp fold true (s.extract 0 i) = true ↔ Mat rp.2.2 fold s rp.1 0 i := by
  rw [sel_whole hp]
  exact mat_piece (pat_noAnch hp hn) fold s rp.1 (Nat.zero_le _) hi
theorem ag_suf {i : Nat} (hi : i ≤ s.size) : selB rp fold true (s.extract i s.size) = true ↔ Mat rp.2.2 fold s rp.1 i s.size := by
  rw [sel_whole hp]
  exact mat_piece (pat_noAnch hp hn) fold s rp.1 hi (Nat.le_refl _)
theorem ag_star (hS : PatOk (agT p sStar) (starR p rp)) {i : Nat} (hi : i ≤ s.size) : selB (starR p rp) fold true (s.extract i s.size) = true ↔ ∃ c, PowM s.size (Mat rp.2.2 fold s rp.1) c i s.size := by
  obtain ⟨_, _, _, f4, f5⟩ := rep_facts hp (suf := sStar) rfl (star_signs p).1 (star_signs p).2
  rw [sel_whole hS, mat_piece (f5 (pat_noAnch hp hn)) fold s _ hi (Nat.le_refl _), f4]
  constructor
  · rintro ⟨c, _, _, h⟩; exact ⟨c, h⟩
  · rintro ⟨c, h⟩; exact ⟨c, by show (0 : Int) ≤ _; omega, Or.inl rfl, h⟩
theorem law_star (hS : PatOk (agT p sStar) (starR p rp)) : selB (starR p rp) fold true s = true ↔ s.size = 0 ∨ ∃ i, 1 ≤ i ∧ i ≤ s.size ∧ selB rp fold true (s.extract 0 i) = true ∧ selB (starR p rp) fold true (s.extract i s.size) = true := by
  obtain ⟨_, _, _, f4, f5⟩ := rep_facts hp (suf := sStar) rfl (star_signs p).1 (star_signs p).2
  have hR : ∀ i j, Mat rp.2.2 fold s rp.1 i j → i ≤ s.size ∧ j ≤ s.size ∧ i ≤ j := fun i j h => h.le
  have h0 : selB (starR p rp) fold true s = true ↔ ∃ c, PowM s.size (Mat rp.2.2 fold s rp.1) c 0 s.size := by
    rw [sel_whole hS, f4]
    constructor
    · rintro ⟨c, _, _, h⟩; exact ⟨c, h⟩
    · rintro ⟨c, h⟩; exact ⟨c, by show (0 : Int) ≤ _; omega, Or.inl rfl, h⟩
  rw [h0, pow_star hR]
  constructor
  · rintro (⟨h, _⟩ | ⟨m, h1, h2, h3⟩)
    · exact Or.inl h.symm
    · exact Or.inr ⟨m, h1, h2.le.2.1, (ag_pre hp hn fold s h2.le.2.1).2 h2, (ag_star hp hn fold s hS h2.le.2.1).2 h3⟩
  · rintro (h | ⟨i, h1, h2, h3, h4⟩)
    · exact Or.inl ⟨h.symm, Nat.zero_le _⟩
    · exact Or.inr ⟨i, h1, (ag_pre hp hn fold s h2).1 h3, (ag_star hp hn fold s hS h2).1 h4⟩
theorem law_plus (hS : PatOk (agT p sStar) (starR p rp)) (hP : PatOk (agT p sPlus) (plusR p rp)) : selB (plusR p rp) fold true s = true ↔ ∃ i, i ≤ s.size ∧ selB rp fold true (s.extract 0 i) = true ∧ selB (starR p rp) fold true (s.extract i s.size) = true := by
  obtain ⟨_, _, _, f4, _⟩ := rep_facts hp (suf := sPlus) rfl (plus_signs p).1 (plus_signs p).2
  have hR : ∀ i j, Mat rp.2.2 fold s rp.1 i j → i ≤ s.size ∧ j ≤ s.size ∧ i ≤ j := fun i j h => h.le
  rw [sel_whole hP, f4]
  constructor
  · rintro ⟨c, h1, _, h⟩
    have h1 : (1 : Int) ≤ c := h1
    obtain ⟨d, rfl⟩ : ∃ d, c = d + 1 := ⟨c - 1, by omega⟩
    obtain ⟨m, h2, h3⟩ := (pow_cons hR d 0 s.size).1 h
    exact ⟨m, h2.le.2.1, (ag_pre hp hn fold s h2.le.2.1).2 h2, (ag_star hp hn fold s hS h2.le.2.1).2 ⟨d, h3⟩⟩
  · rintro ⟨i, h2, h3, h4⟩
    obtain ⟨d, h5⟩ := (ag_star hp hn fold s hS h2).1 h4
    exact ⟨d + 1, by show (1 : Int) ≤ _; omega, Or.inl rfl, (pow_cons hR d 0 s.size).2 ⟨i, (ag_pre hp hn fold s h2).1 h3, h5⟩⟩
omit hn in
theorem law_quest (hQ : PatOk (agT p sQuest) (questR p rp)) : selB (questR p rp) fold true s = true ↔ selB rp fold true s = true ∨ s.size = 0 := by
  obtain ⟨_, _, _, f4, _⟩ := rep_facts hp (suf := sQuest) rfl (quest_signs p).1 (quest_signs p).2
  rw [sel_whole hQ, f4, sel_whole hp]
  constructor
  · rintro ⟨c, h1, h2, h⟩
    have h2 : (c : Int) ≤ 1 := h2.elim (fun h => absurd h (by decide)) id
    rcases (by omega : c = 0 ∨ c = 1) with rfl | rfl
    · exact Or.inr h.1.symm
    · obtain ⟨m, ⟨h3, _⟩, h4⟩ := h
      subst h3
      exact Or.inl h4
  · rintro (h | h)
    · exact ⟨1, by show (0 : Int) ≤ _; omega, Or.inr (by show (1 : Int) ≤ 1; omega), 0, ⟨rfl, Nat.zero_le _⟩, h⟩
    · exact ⟨0, by show (0 : Int) ≤ _; omega, Or.inr (by show (0 : Int) ≤ 1; omega), h.symm, Nat.zero_le _⟩
theorem law_two (hT : PatOk (agT p sTwo) (twoR p rp)) : selB (twoR p rp) fold true s = true ↔ ∃ i, i ≤ s.size ∧ selB rp fold true (s.extract 0 i) = true ∧ selB rp fold true (s.extract i s.size) = true := by
  obtain ⟨_, _, _, f4, _⟩ := rep_facts hp (suf := sTwo) rfl (two_sign p).1 (two_sign p).2
  rw [sel_whole hT, f4]
  constructor
  · rintro ⟨c, h1, h2, h⟩
    have h1 : (2 : Int) ≤ c := h1
    have h2 : (c : Int) ≤ 2 := h2.elim (fun h => absurd h (by decide)) id
    obtain rfl : c = 2 := by omega
    obtain ⟨m, ⟨k, ⟨rfl, _⟩, h3⟩, h4⟩ := h
    exact ⟨m, h3.le.2.1, (ag_pre hp hn fold s h3.le.2.1).2 h3, (ag_suf hp hn fold s h3.le.2.1).2 h4⟩
  · rintro ⟨i, h2, h3, h4⟩
    exact ⟨2, by show (2 : Int) ≤ 2; omega, Or.inr (by show (2 : Int) ≤ 2; omega), i, ⟨0, ⟨rfl, Nat.zero_le _⟩, (ag_pre hp hn fold s h2).1 h3⟩, (ag_suf hp hn fold s h2).1 h4⟩

omit hn in
theorem again_case : (PatE (agT p sStar) 3 ∧ (40 < (agT p sStar).size ∨ 60 < sizeAt rp.2.2 rp.1)) ∨
    (PatOk (agT p sStar) (starR p rp) ∧ sizeAt (starR p rp).2.2 (starR p rp).1 = sizeAt rp.2.2 rp.1 ∧ PatOk (agT p sPlus) (plusR p rp) ∧ PatOk (agT p sQuest) (questR p rp)) := by
  have z1 : (agT p sStar).size = p.size + 3 := by rw [agT_size]; rfl
  have z2 : (agT p sPlus).size = p.size + 3 := by rw [agT_size]; rfl
  have z3 : (agT p sQuest).size = p.size + 3 := by rw [agT_size]; rfl
  rcases rep_case hp (suf := sStar) rfl (star_signs p).1 (star_signs p).2 1 (by decide) with ⟨h1, h2⟩ | ⟨h1, h2⟩
  · exact Or.inl ⟨h1, by rw [Int.mul_one] at h2; exact h2⟩
  · have hs := h1.small
    have hz := h1.size
    rw [h2] at hz
    rw [Int.mul_one] at h2
    refine Or.inr ⟨h1, h2, ?_, ?_⟩
    · rcases rep_case hp (suf := sPlus) rfl (plus_signs p).1 (plus_signs p).2 1 (by decide) with ⟨_, h4⟩ | ⟨h3, _⟩
      · omega
      · exact h3
    · rcases rep_case hp (suf := sQuest) rfl (quest_signs p).1 (quest_signs p).2 1 (by decide) with ⟨_, h4⟩ | ⟨h3, _⟩
      · omega
      · exact h3
omit hn in
theorem two_case : (PatE (agT p sTwo) 3 ∧ (40 < (agT p sTwo).size ∨ 60 < 2 * sizeAt rp.2.2 rp.1)) ∨
    (PatOk (agT p sTwo) (twoR p rp) ∧ sizeAt (twoR p rp).2.2 (twoR p rp).1 = 2 * sizeAt rp.2.2 rp.1) := by
  rcases rep_case hp (suf := sTwo) rfl (two_sign p).1 (two_sign p).2 2 (by decide) with ⟨h1, h2⟩ | ⟨h1, h2⟩
  · exact Or.inl ⟨h1, by rw [Int.mul_comm] at h2; exact h2⟩
  · exact Or.inr ⟨h1, by rw [Int.mul_comm] at h2; exact h2⟩
end

end Go.Proofs.Ytgifhgnccmnbiaa

set_option linter.unusedVariables false
set_option linter.unusedSimpArgs false
namespace Go.Proofs.Ytgifhgnccmnbiaa
open Go.RowKit Go.IntWalk

theorem loop_len (bs : ByteArray) : ∀ (k i : Nat) (r : List UInt8), bs.size - i = k → (ByteArray.toList.loop bs i r).length = r.length + (bs.size - i)
  | 0, i, r, h => by
    rw [ByteArray.toList.loop]
    rw [if_neg (by omega)]
    simp; omega
  | k + 1, i, r, h => by
    rw [ByteArray.toList.loop]
    rw [if_pos (by omega)]
    rw [loop_len bs k (i + 1) _ (by omega)]
    simp; omega
theorem empty_iff (s : ByteArray) : s.toList.isEmpty = true ↔ s.size = 0 := by
  rw [List.isEmpty_iff, ← List.length_eq_zero_iff]
  unfold ByteArray.toList
  rw [loop_len s s.size 0 [] (by omega)]
  simp

/-- What a loop over the places of a line has found. -/
structure FndS (Z : Bool) (PP QQ : Nat → Bool) (n lo q : Nat) (fv : Value) : Prop where
  out : ∃ b : Bool, fv = .bool b ∧ (b = true ↔ Z = true ∨ ∃ i, lo ≤ i ∧ i < q ∧ i ≤ n ∧ PP i = true ∧ QQ i = true)
/-- All of them. -/
structure FndT (Z : Bool) (PP QQ : Nat → Bool) (n lo : Nat) (Y : Bool) : Prop where
  out : Y = true ↔ Z = true ∨ ∃ i, lo ≤ i ∧ i ≤ n ∧ PP i = true ∧ QQ i = true
structure IffB (b : Bool) (X : Prop) : Prop where
  out : b = true ↔ X
theorem FndS.start (Z : Bool) (PP QQ : Nat → Bool) (n lo : Nat) : FndS Z PP QQ n lo lo (.bool Z) :=
  ⟨Z, rfl, ⟨Or.inl, fun h => h.elim id (fun ⟨i, h1, h2, _⟩ => absurd h1 (Nat.not_le.2 h2))⟩⟩
theorem FndS.step {Z b : Bool} {PP QQ : Nat → Bool} {n lo k : Nat} (h : IffB b (Z = true ∨ ∃ i, lo ≤ i ∧ i < k ∧ i ≤ n ∧ PP i = true ∧ QQ i = true)) (h1 : lo ≤ k) (h2 : k ≤ n) : FndS Z PP QQ n lo (k + 1) (.bool (b || (PP k && QQ k))) := by
  refine ⟨_, rfl, ?_⟩
  rw [Bool.or_eq_true, Bool.and_eq_true, h.out]
  constructor
  · rintro ((h | ⟨i, a1, a2, a3⟩) | ⟨a1, a2⟩)
    · exact Or.inl h
    · exact Or.inr ⟨i, a1, by omega, a3⟩
    · exact Or.inr ⟨k, h1, by omega, h2, a1, a2⟩
  · rintro (h | ⟨i, a1, a2, a3, a4, a5⟩)
    · exact Or.inl (Or.inl h)
    · by_cases hik : i = k
      · subst hik; exact Or.inr ⟨a4, a5⟩
      · exact Or.inl (Or.inr ⟨i, a1, by omega, a3, a4, a5⟩)
theorem FndT.same {Z b Y : Bool} {PP QQ : Nat → Bool} {n lo k : Nat} (h : IffB b (Z = true ∨ ∃ i, lo ≤ i ∧ i < k ∧ i ≤ n ∧ PP i = true ∧ QQ i = true)) (hk : n < k) (t : FndT Z PP QQ n lo Y) : b = Y := by
  rw [Bool.eq_iff_iff, h.out, t.out]
  constructor
  · rintro (h | ⟨i, a1, a2, a3⟩)
    · exact Or.inl h
    · exact Or.inr ⟨i, a1, a3⟩
  · rintro (h | ⟨i, a1, a3, a4⟩)
    · exact Or.inl h
    · exact Or.inr ⟨i, a1, by omega, a3, a4⟩

set_option maxHeartbeats 2000000 in
set_option maxRecDepth 100000 in
theorem again_free {p : ByteArray} (h : (∃ x, PatE p x) ∨ Anch p p.size) (line : ByteArray) (fold : Bool) (w : World) (hp : p.size ≤ maxLen) :
    Calls Try.prog 7 #[.string p, .string line, .bool fold] w fun e w' => e = .returned (.bool true) ∧ Below w.heap.size w w' := by
  have hma : Hid (∀ w, Calls _ _ _ w _) := fun w => matching_any w
  have hap : Hid (∀ w, Calls _ _ _ w _) := fun w => anchored_any p hp w
  have key : ∃ n x : Int, 0 ≤ x ∧ x ≤ 3 ∧ (∀ w, Calls Try.prog 15 #[.string p] w fun e w' => e = .returned (.tuple #[.int .i64 n, .int .i64 x]) ∧ Below w.heap.size w w') ∧ (x ≠ 0 ∨ anchB p = true) := by
    obtain ⟨n, x, x0, x3, _, _, hcp⟩ := check_case p hp
    rcases h with ⟨z, h⟩ | h
    · exact ⟨0, z, by have := h.ne; omega, by have := h.ne; omega, fun w => check_bad h w hp, Or.inl (by have := h.ne; omega)⟩
    · exact ⟨n, x, x0, x3, hcp, Or.inr (anchB_true h)⟩
  obtain ⟨n, x, x0, x3, hcp, hany⟩ := key
  have hcp : Hid (∀ w, _) := hcp
  clear h
  generalize anchB p = X at *
  have walk : ∀ (cx : Bool), (x = 0 ↔ cx = true) → (cx = false ∨ X = true) → Calls Try.prog 7 #[.string p, .string line, .bool fold] w fun e w' => e = .returned (.bool true) ∧ Below w.heap.size w w' := by
    intro cx e1 e3
    clear hany
    cases cx <;> cases X <;> simp at e1 e3 <;>
    · go_enter Try.func7, Try.ntmps7
      go_wp2_with (first
        | (go_at_call 20; refine (hma.out _).mono ?_; rintro e w1 ⟨rfl, b1⟩)
        | (go_at_call 15; with_reducible refine (hcp.out _).mono ?_; rintro e w2 ⟨rfl, b2⟩; have B2 := b1.trans (b2.mono b1.size); clear hcp)
        | (go_at_call 23; with_reducible refine (hap.out _).mono ?_; rintro e w4 ⟨rfl, h4⟩; have h4' := h4.symm; subst h4'; clear hap))
      go_ret
      exact ⟨rfl, B2⟩
  refine walk (decide (x = 0)) (by simp) ?_
  rcases hany with h | h
  · exact Or.inl (decide_eq_false h)
  · exact Or.inr h

set_option maxHeartbeats 2000000 in
set_option maxRecDepth 100000 in
theorem again_big {p : ByteArray} {rp : Nat × PS} (hp : PatOk p rp) (ap : ¬ Anch p p.size) (hE : PatE (agT p sStar) 3) (hb : 40 < (agT p sStar).size ∨ 60 < sizeAt rp.2.2 rp.1) (line : ByteArray) (fold : Bool) (w : World) :
    Calls Try.prog 7 #[.string p, .string line, .bool fold] w fun e w' => e = .returned (.bool true) ∧ Below w.heap.size w w' := by
  have hma : Hid (∀ w, Calls _ _ _ w _) := fun w => matching_any w
  have hc : Hid (∀ w, Calls _ _ _ w _) := fun w => check_ok hp w
  have p40 := hp.small
  have hap : Hid (∀ w, Calls _ _ _ w _) := fun w => anchored_any p (by unfold maxLen; omega) w
  rw [anchB_false ap] at hap
  have hsz : Hid (∀ w, Calls _ _ _ w _) := fun w => sized_no hE (sizeAt rp.2.2 rp.1) (by rw [agT_size]; unfold maxLen; have : sStar.size = 2 := rfl; omega) hb w
  unfold agT bOpen sStar at hsz
  clear hE hb hp ap
  generalize sizeAt rp.2.2 rp.1 = n at *
  go_enter Try.func7, Try.ntmps7
  go_wp2_with (first
    | (go_at_call 20; refine (hma.out _).mono ?_; rintro e w1 ⟨rfl, b1⟩)
    | (go_at_call 15; with_reducible refine (hc.out _).mono ?_; rintro e w2 ⟨rfl, b2⟩; have B2 := b1.trans (b2.mono b1.size); clear hc)
    | (go_at_call 23; with_reducible refine (hap.out _).mono ?_; rintro e w4 ⟨rfl, h4⟩; have h4' := h4.symm; subst h4'; clear hap)
    | (go_at_call 21; with_reducible refine (hsz.out _).mono ?_; rintro e w6 ⟨rfl, b6⟩; have B6 := B2.trans (b6.mono B2.size)))
  go_ret
  exact ⟨rfl, B6⟩

set_option maxHeartbeats 8000000 in
set_option maxRecDepth 100000 in
theorem again_good {p : ByteArray} {rp : Nat × PS} (hp : PatOk p rp) (ap : ¬ Anch p p.size) (hS : PatOk (agT p sStar) (starR p rp)) (hn : sizeAt (starR p rp).2.2 (starR p rp).1 = sizeAt rp.2.2 rp.1) (hPl : PatOk (agT p sPlus) (plusR p rp)) (hQu : PatOk (agT p sQuest) (questR p rp)) (line : ByteArray) (fold : Bool) (w : World) (hl : line.size ≤ maxLen) :
    Calls Try.prog 7 #[.string p, .string line, .bool fold] w fun e w' => e = .returned (.bool true) ∧ Below w.heap.size w w' := by
  have hma : Hid (∀ w, Calls _ _ _ w _) := fun w => matching_any w
  have hc : Hid (∀ w, Calls _ _ _ w _) := fun w => check_ok hp w
  have hs : Hid (∀ w, Calls _ _ _ w _) := fun w => short_any line hl w
  have p40 := hp.small
  have p60 := hp.size
  have p1 := (hp.okay.ok.size (i := rp.1) (by have := hp.okay.top; omega)).1
  have hap : Hid (∀ w, Calls _ _ _ w _) := fun w => anchored_any p (by unfold maxLen; omega) w
  rw [anchB_false ap] at hap
  have hsz : Hid (∀ w, Calls _ _ _ w _) := fun w => sized_yes hS w
  rw [hn] at hsz
  obtain ⟨isT, hsz2, hT⟩ : ∃ isT : Bool, (∀ w, Calls Try.prog 21 #[.string (agT p sTwo), .int .i64 (2 * sizeAt rp.2.2 rp.1)] w fun e w' => e = .returned (.tuple #[.bool isT, .bool true]) ∧ Below w.heap.size w w') ∧ (isT = true → PatOk (agT p sTwo) (twoR p rp)) := by
    rcases two_case hp with ⟨h1, h2⟩ | ⟨h1, h2⟩
    · exact ⟨false, fun w => sized_no h1 _ (by rw [agT_size]; unfold maxLen; have : sTwo.size = 4 := rfl; omega) h2 w, fun h => by cases h⟩
    · exact ⟨true, fun w => by rw [← h2]; exact sized_yes h1 w, fun _ => h1⟩
  have hsz2 : Hid (∀ w, Calls _ _ _ w _) := hsz2
  have fp : Hid (∀ s, IsLine s → (∀ i w, Calls _ _ _ w _) ∧ (∀ i w, Calls _ _ _ w _) ∧ (∀ i w, Calls _ _ _ w _) ∧ (∀ w, Calls _ _ _ w _) ∧ (∀ w, Calls _ _ _ w _) ∧ (∀ w, Calls _ _ _ w _) ∧ (∀ w, Calls _ _ _ w _) ∧ (isT = true → ∀ w, Calls _ _ _ w _)) := fun s hss =>
    ⟨fun i w => whole_ok hp fold (s.extract 0 i) (piece_line hss 0 i) w, fun i w => whole_ok hS fold (s.extract i s.size) (piece_line hss i s.size) w, fun i w => whole_ok hp fold (s.extract i s.size) (piece_line hss i s.size) w,
      fun w => whole_ok hS fold s hss w, fun w => whole_ok hPl fold s hss w, fun w => whole_ok hp fold s hss w, fun w => whole_ok hQu fold s hss w, fun h w => whole_ok (hT h) fold s hss w⟩
  have laws : Hid (∀ s : ByteArray, FndT s.toList.isEmpty (fun i => selB rp fold true (s.extract 0 i)) (fun i => selB (starR p rp) fold true (s.extract i s.size)) s.size 1 (selB (starR p rp) fold true s) ∧
      FndT false (fun i => selB rp fold true (s.extract 0 i)) (fun i => selB (starR p rp) fold true (s.extract i s.size)) s.size 0 (selB (plusR p rp) fold true s) ∧
      IffB (selB (questR p rp) fold true s) (selB rp fold true s = true ∨ s.toList.isEmpty = true) ∧
      (isT = true → FndT false (fun i => selB rp fold true (s.extract 0 i)) (fun i => selB rp fold true (s.extract i s.size)) s.size 0 (selB (twoR p rp) fold true s))) := fun s => by
    refine ⟨⟨?_⟩, ⟨?_⟩, ⟨?_⟩, fun h => ⟨?_⟩⟩
    · rw [law_star hp ap fold s hS, empty_iff]
    · rw [law_plus hp ap fold s hS hPl]
      constructor
      · rintro ⟨i, h⟩; exact Or.inr ⟨i, Nat.zero_le _, h⟩
      · rintro (h | ⟨i, _, h⟩)
        · cases h
        · exact ⟨i, h⟩
    · rw [law_quest hp fold s hQu, empty_iff]
    · rw [law_two hp ap fold s (hT h)]
      constructor
      · rintro ⟨i, h⟩; exact Or.inr ⟨i, Nat.zero_le _, h⟩
      · rintro (h | ⟨i, _, h⟩)
        · cases h
        · exact ⟨i, h⟩
  unfold agT bOpen sStar at hsz
  unfold agT bOpen sTwo at hsz2
  unfold agT bOpen sStar sPlus sQuest sTwo at fp
  clear hS hPl hQu hp ap hn hT
  generalize sizeAt rp.2.2 rp.1 = n at *
  go_enter Try.func7, Try.ntmps7
  go_wp2_with (first
    | (go_at_call 20; refine (hma.out _).mono ?_; rintro e w1 ⟨rfl, b1⟩)
    | (go_at_call 15; with_reducible refine (hc.out _).mono ?_; rintro e w2 ⟨rfl, b2⟩; have B2 := b1.trans (b2.mono b1.size); clear hc)
    | (go_at_call 23; with_reducible refine (hap.out _).mono ?_; rintro e w4 ⟨rfl, h4⟩; have h4' := h4.symm; subst h4'; clear hap)
    | (go_at_call 21; with_reducible refine (hsz.out _).mono ?_; rintro e w6 ⟨rfl, b6⟩; have B6 := B2.trans (b6.mono B2.size); clear hsz))
  refine (hs.out _).mono ?_
  rintro e w7 ⟨v, rfl, s, rfl, h7⟩
  have B7 : Below w.heap.size w w7 := B6.trans (h7.bel.mono B6.size)
  have z7 := h7.size
  obtain ⟨q1, q2, q3, q4, q5, q6, q7, q8⟩ := fp.out s h7.line
  obtain ⟨t1, t2, t3, t4⟩ := laws.out s
  have t4 : Hid (_ → _) := t4
  have hY3 : Hid (selB (questR p rp) fold true s = (selB rp fold true s || s.toList.isEmpty)) := by
    show _ = _
    rw [Bool.eq_iff_iff, Bool.or_eq_true]; exact t3.out
  clear t3
  clear h7 hs B2 B6 b1 b2 b6 hma fp laws
  generalize selB (starR p rp) fold true s = Y1 at *
  generalize selB (plusR p rp) fold true s = Y2 at *
  generalize selB (questR p rp) fold true s = Y3 at *
  generalize selB rp fold true s = Y4 at *
  generalize selB (twoR p rp) fold true s = Y5 at *
  generalize hZ : s.toList.isEmpty = Z at *
  generalize hP1 : (fun i => selB rp fold true (s.extract 0 i)) = P1 at *
  generalize hP2 : (fun i => selB (starR p rp) fold true (s.extract i s.size)) = P2 at *
  generalize hP3 : (fun i => selB rp fold true (s.extract i s.size)) = P3 at *
  have c1 : Hid (∀ i w, Calls Try.prog 24 #[.string p, .bool fold, .string (s.extract 0 i)] w fun e w' => e = .returned (.bool (P1 i)) ∧ Below w.heap.size w w') := by rw [← hP1]; exact q1
  have c2 : Hid (∀ i w, Calls Try.prog 24 #[.string ((({ data := #[40] } : ByteArray) ++ p) ++ { data := #[41, 42] }), .bool fold, .string (s.extract i s.size)] w fun e w' => e = .returned (.bool (P2 i)) ∧ Below w.heap.size w w') := by rw [← hP2]; exact q2
  have c3 : Hid (∀ i w, Calls Try.prog 24 #[.string p, .bool fold, .string (s.extract i s.size)] w fun e w' => e = .returned (.bool (P3 i)) ∧ Below w.heap.size w w') := by rw [← hP3]; exact q3
  have q4 : Hid (∀ w, Calls _ _ _ w _) := q4
  have q5 : Hid (∀ w, Calls _ _ _ w _) := q5
  have q6 : Hid (∀ w, Calls _ _ _ w _) := q6
  have q7 : Hid (∀ w, Calls _ _ _ w _) := q7
  have q8 : Hid (isT = true → ∀ w, Calls _ _ _ w _) := q8
  clear q1 q2 q3 hP1 hP2 hP3
  go_wp2_with fail
  go_loopw [14, 15] (fun fv iv wr => ∃ (q : Nat), iv = .int .i64 (q : Int) ∧ q ≤ s.size + 1 ∧ 1 ≤ q ∧ FndS Z P1 P2 s.size 1 q fv ∧ Below w.heap.size w wr) (fun _ iv _ => ((s.size : Int) + 1 - intOf iv).toNat)
  case atStart => exact ⟨1, rfl, by omega, Nat.le_refl _, FndS.start Z P1 P2 s.size 1, B7⟩
  case round =>
    obtain ⟨k, rfl, hk, hk0, ⟨b, rfl, hb⟩, hbel⟩ := hrel
    have hbI : IffB b _ := ⟨hb⟩
    clear hb
    by_cases hlt : (k : Int) ≤ (s.size : Int)
    · have hkn : k ≤ s.size := by omega
      have hst := FndS.step hbI hk0 hkn
      have hcp : Hid (∀ w, Calls _ _ _ w _) := fun w => c1.out k w
      have hcq : Hid (∀ w, Calls _ _ _ w _) := fun w => c2.out k w
      clear hbI c1 c2 c3
      try clear t1
      try clear t2
      try clear t3
      try clear t4
      try clear t4'
      try clear q4
      try clear q5
      try clear q6
      try clear q7
      try clear q8
      try clear q8'
      try clear hsz2
      generalize P1 k = X1 at hst hcp hcq
      generalize P2 k = X2 at hst hcp hcq
      cases b <;> cases X1 <;> cases X2 <;>
      · go_wp2_with (first
          | (go_at_call 24; with_reducible refine (hcp.out _).mono ?_; rintro e w8 ⟨rfl, b8⟩; have B8 := hbel.trans (b8.mono hbel.size); clear hcp)
          | (go_at_call 24; with_reducible refine (hcq.out _).mono ?_; rintro e w9 ⟨rfl, b9⟩; have B9 := B8.trans (b9.mono B8.size); clear hcq))
        refine ⟨⟨k + 1, by go_num, by omega, by omega, hst, B9⟩, ?_⟩
        simp only [intOf]; omega
    · have hbY : b = Y1 := FndT.same hbI (by omega) t1
      subst hbY
      clear hbI
      clear t1
      have B10 := hbel
      clear hbel
      · go_wp2_with (go_at_call 24; with_reducible refine (q4.out _).mono ?_; rintro e w11 ⟨rfl, b11⟩; have B11 := B10.trans (b11.mono B10.size); clear q4)
        go_loopw [19, 20] (fun fv iv wr => ∃ (q : Nat), iv = .int .i64 (q : Int) ∧ q ≤ s.size + 1 ∧ 0 ≤ q ∧ FndS false P1 P2 s.size 0 q fv ∧ Below w.heap.size w wr) (fun _ iv _ => ((s.size : Int) + 1 - intOf iv).toNat)
        case atStart => exact ⟨0, rfl, by omega, Nat.le_refl _, FndS.start false P1 P2 s.size 0, B11⟩
        case round =>
          obtain ⟨k, rfl, hk, hk0, ⟨b, rfl, hb⟩, hbel⟩ := hrel
          have hbI : IffB b _ := ⟨hb⟩
          clear hb
          by_cases hlt : (k : Int) ≤ (s.size : Int)
          · have hkn : k ≤ s.size := by omega
            have hst := FndS.step hbI hk0 hkn
            have hcp : Hid (∀ w, Calls _ _ _ w _) := fun w => c1.out k w
            have hcq : Hid (∀ w, Calls _ _ _ w _) := fun w => c2.out k w
            clear hbI c1 c2 c3
            try clear t1
            try clear t2
            try clear t3
            try clear t4
            try clear t4'
            try clear q4
            try clear q5
            try clear q6
            try clear q7
            try clear q8
            try clear q8'
            try clear hsz2
            generalize P1 k = X1 at hst hcp hcq
            generalize P2 k = X2 at hst hcp hcq
            cases b <;> cases X1 <;> cases X2 <;>
            · go_wp2_with (first
                | (go_at_call 24; with_reducible refine (hcp.out _).mono ?_; rintro e w8 ⟨rfl, b8⟩; have B8 := hbel.trans (b8.mono hbel.size); clear hcp)
                | (go_at_call 24; with_reducible refine (hcq.out _).mono ?_; rintro e w9 ⟨rfl, b9⟩; have B9 := B8.trans (b9.mono B8.size); clear hcq))
              refine ⟨⟨k + 1, by go_num, by omega, by omega, hst, B9⟩, ?_⟩
              simp only [intOf]; omega
          · have hbY : b = Y2 := FndT.same hbI (by omega) t2
            subst hbY
            clear hbI
            clear t2
            have B20 := hbel
            clear hbel
            cases isT
            · have e3 := hY3.out
              subst e3
              clear hY3 q8 t4
              cases Y4 <;> cases Z <;>
              · go_wp2_with (first
                  | (go_at_call 24; with_reducible refine (q5.out _).mono ?_; rintro e w21 ⟨rfl, b21⟩; have B21 := B20.trans (b21.mono B20.size); clear q5)
                  | (go_at_call 24; with_reducible refine (q6.out _).mono ?_; rintro e w22 ⟨rfl, b22⟩; have B22 := B21.trans (b22.mono B21.size); clear q6)
                  | (go_at_call 24; with_reducible refine (q7.out _).mono ?_; rintro e w23 ⟨rfl, b23⟩; have B23 := B22.trans (b23.mono B22.size); clear q7)
                  | (go_at_call 21; with_reducible refine (hsz2.out _).mono ?_; rintro e w24 ⟨rfl, b24⟩; have B24 := B23.trans (b24.mono B23.size); clear hsz2))
                go_ret
                exact ⟨rfl, B24⟩
            · have t4' := t4.out rfl
              have q8' : Hid (∀ w, Calls _ _ _ w _) := q8.out rfl
              have e3 := hY3.out
              subst e3
              clear hY3 q8 t4
              cases Y4 <;> cases Z <;>
              · go_wp2_with (first
                  | (go_at_call 24; with_reducible refine (q5.out _).mono ?_; rintro e w21 ⟨rfl, b21⟩; have B21 := B20.trans (b21.mono B20.size); clear q5)
                  | (go_at_call 24; with_reducible refine (q6.out _).mono ?_; rintro e w22 ⟨rfl, b22⟩; have B22 := B21.trans (b22.mono B21.size); clear q6)
                  | (go_at_call 24; with_reducible refine (q7.out _).mono ?_; rintro e w23 ⟨rfl, b23⟩; have B23 := B22.trans (b23.mono B22.size); clear q7)
                  | (go_at_call 21; with_reducible refine (hsz2.out _).mono ?_; rintro e w24 ⟨rfl, b24⟩; have B24 := B23.trans (b24.mono B23.size); clear hsz2))
                go_loopw [26, 27] (fun fv iv wr => ∃ (q : Nat), iv = .int .i64 (q : Int) ∧ q ≤ s.size + 1 ∧ 0 ≤ q ∧ FndS false P1 P3 s.size 0 q fv ∧ Below w.heap.size w wr) (fun _ iv _ => ((s.size : Int) + 1 - intOf iv).toNat)
                case atStart => exact ⟨0, rfl, by omega, Nat.le_refl _, FndS.start false P1 P3 s.size 0, B24⟩
                case round =>
                  obtain ⟨k, rfl, hk, hk0, ⟨b, rfl, hb⟩, hbel⟩ := hrel
                  have hbI : IffB b _ := ⟨hb⟩
                  clear hb
                  by_cases hlt : (k : Int) ≤ (s.size : Int)
                  · have hkn : k ≤ s.size := by omega
                    have hst := FndS.step hbI hk0 hkn
                    have hcp : Hid (∀ w, Calls _ _ _ w _) := fun w => c1.out k w
                    have hcq : Hid (∀ w, Calls _ _ _ w _) := fun w => c3.out k w
                    clear hbI c1 c2 c3
                    try clear t1
                    try clear t2
                    try clear t3
                    try clear t4
                    try clear t4'
                    try clear q4
                    try clear q5
                    try clear q6
                    try clear q7
                    try clear q8
                    try clear q8'
                    try clear hsz2
                    generalize P1 k = X1 at hst hcp hcq
                    generalize P3 k = X2 at hst hcp hcq
                    cases b <;> cases X1 <;> cases X2 <;>
                    · go_wp2_with (first
                        | (go_at_call 24; with_reducible refine (hcp.out _).mono ?_; rintro e w8 ⟨rfl, b8⟩; have B8 := hbel.trans (b8.mono hbel.size); clear hcp)
                        | (go_at_call 24; with_reducible refine (hcq.out _).mono ?_; rintro e w9 ⟨rfl, b9⟩; have B9 := B8.trans (b9.mono B8.size); clear hcq))
                      refine ⟨⟨k + 1, by go_num, by omega, by omega, hst, B9⟩, ?_⟩
                      simp only [intOf]; omega
                  · have hbY : b = Y5 := FndT.same hbI (by omega) t4'
                    subst hbY
                    clear hbI
                    have B30 := hbel
                    clear hbel
                    (
                    · go_wp2_with (go_at_call 24; with_reducible refine (q8'.out _).mono ?_; rintro e w31 ⟨rfl, b31⟩; have B31 := B30.trans (b31.mono B30.size))
                      go_ret
                      exact ⟨rfl, B31⟩)

theorem again_law (p line : ByteArray) (fold : Bool) (w : World) (hp : p.size ≤ maxLen) (hl : line.size ≤ maxLen) :
    Calls Try.prog 7 #[.string p, .string line, .bool fold] w fun e w' => e = .returned (.bool true) ∧ Below w.heap.size w w' := by
  rcases pat_cases p with h | ⟨rp, h1⟩
  · exact again_free (Or.inl h) line fold w hp
  · by_cases ap : Anch p p.size
    · exact again_free (Or.inr ap) line fold w hp
    · rcases again_case h1 with ⟨h3, h4⟩ | ⟨h3, h4, h5, h6⟩
      · exact again_big h1 ap h3 h4 line fold w
      · exact again_good h1 ap h3 h4 h5 h6 line fold w hl

end Go.Proofs.Ytgifhgnccmnbiaa

namespace Go.Proofs.Ytgifhgnccmnbiaa.againN
open Go.ChangeShapes Go.WideShapes Go.ChangeAt Go.RowKit
open Go.ChangeMaps (open_string shut_string)
set_option linter.unusedVariables false

theorem own : ownKnob Try.prog.godebug = none := by kernel_rfl

set_option maxRecDepth 100000 in
theorem lifted (os : Os) (started : os.Started) (H : Type) (enc : TypeId × Value → H) :
    ReturnsInHanded {} Try.checked os 7 .any (Rows.againSpec.pre6 enc Try.prog Try.f7 Rows.againRow.domain false) (Rows.againSpec.post enc Try.prog Try.f7 false true false false) := by
  refine returnsInHanded_of_change (C := Try.checked) own started (by kernel_rfl) Try.func7
    (ChangeSpec.witness6 (enc := enc) (C := Try.checked) false ⟨#[], #[.string ByteArray.empty, .string ByteArray.empty, .bool false], []⟩ 8 (by kernel_rfl) (by kernel_rfl) (by kernel_rfl) (by kernel_rfl)) ?_
  intro W base args ds gs before hval0 hW hcnd _
  have hval : ∀ (j : Nat) t v, Try.f7.params[j]? = some t → args[j]? = some v → Value.okWide Try.prog W .any base t v := hval0
  have hW' := hW
  obtain ⟨p, q, hA0, hV, rfl, hfz, hnd⟩ := hW
  have hA : DataW.TrodAll enc Try.prog W 0 (fun _ => true) true Try.f7.params.toList args.toList ds p := hA0
  rw [Try.params7] at hA hval
  obtain ⟨v0, vs0, d0, ds0, p0, q0, hargs, rfl, rfl, h0, r0⟩ := trodAll_cons hA
  obtain ⟨v1, vs1, d1, ds1, p1, q1, rfl, rfl, rfl, h1, r1⟩ := trodAll_cons r0
  obtain ⟨v2, vs2, d2, ds2, p2, q2, rfl, rfl, rfl, h2, r2⟩ := trodAll_cons r1
  obtain ⟨rfl, rfl, rfl⟩ := trodAll_nil r2
  obtain rfl : args = #[v0, v1, v2] := by cases args; simp_all
  obtain ⟨rfl, rfl⟩ := trodVars_none hV
  obtain ⟨a0, rfl, rfl, rfl, w0⟩ := open_string Try.underlying9 (hval 0 9 v0 rfl rfl) h0
  obtain ⟨a1, rfl, rfl, rfl, w1⟩ := open_string Try.underlying9 (hval 1 9 v1 rfl rfl) h1
  obtain ⟨a2, rfl, rfl, rfl⟩ := open_bool Try.underlying4 (hval 2 4 v2 rfl rfl) h2
  clear hA0 hval0
  simp only [List.append_nil] at hW'
  refine (again_law a0 a1 a2 W w0 w1).mono fun e W' ⟨he, bel⟩ => ?_
  subst he
  exact ⟨_, rfl, _, _, _, [], _, [], hW', trodAll_mk1 (shut_bool Try.underlying4 _), (trodAll_cons_mk (shut_string Try.underlying9 w0) (trodAll_cons_mk (shut_string Try.underlying9 w1) (trodAll_cons_mk (shut_bool Try.underlying4 _) trodAll_mk0))), rfl, bel.frame _, fun h => by cases h⟩

theorem over : Rows.againRow.holds Try.pinned (OpenSpec.ofChange Rows.againSpec) :=
  OpenClaim.holds_of_wide 7 Try.f7 rfl rfl rfl rfl rfl rfl rfl ⟨rfl, rfl, rfl, rfl, rfl⟩ rfl rfl rfl rfl rfl (by kernel_rfl) Try.func7 (by kernel_rfl)
    (of_decide_eq_true (by kernel_rfl)) (by unfold Func.isWrapper; first | (rw [if_pos (by decide +kernel)]; kernel_rfl) | (rw [if_neg (by decide +kernel)]; exact ⟨rfl, rfl⟩))
    (fun os started H enc _ => lifted os started H enc)

end Go.Proofs.Ytgifhgnccmnbiaa.againN
namespace Go.Proofs.Ytgifhgnccmnbiaa

theorem again_holds : Rows.AgainSaid := againN.over
#print axioms again_holds

end Go.Proofs.Ytgifhgnccmnbiaa
