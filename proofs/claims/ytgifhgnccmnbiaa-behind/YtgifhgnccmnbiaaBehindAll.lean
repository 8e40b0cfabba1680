/- For all patterns p and q, every line and every choice of Fold the law Behind answers true: p in brackets and q in brackets behind it match a line whole just if it falls into a piece for p and a piece for q, and the size is both sizes: no condition; nothing that was there before the call is changed. -/
import Derived.Test.YtgifhgnccmnbiaaG12
import Derived.Test.YtgifhgnccmnbiaaG13
import Derived.ProofKit
import Derived.OpenShut
import Derived.ShutString
set_option linter.unusedVariables false
set_option linter.unusedSimpArgs false
namespace Go.Proofs.Ytgifhgnccmnbiaa

def bTwo : ByteArray := ⟨#[41, 40]⟩
/-- (p)(q) -/
def behindT (p q : ByteArray) : ByteArray := (((bOpen ++ p) ++ bTwo) ++ q) ++ bShut
theorem behindT_size (p q : ByteArray) : (behindT p q).size = p.size + q.size + 4 := by
  unfold behindT
  simp only [ByteArray.size_append]
  have h1 : bOpen.size = 1 := rfl
  have h2 : bTwo.size = 2 := rfl
  have h3 : bShut.size = 1 := rfl
  omega
def behindR (p q : ByteArray) (rp rq : Nat × PS) : Nat × PS :=
  joinS 4 (0 + rp.1) ((shL [] rp.2.2).length + rq.1) (((behindT p q).size, false), shL (shL [] rp.2.2) rq.2.2)

theorem behind_deriv {p q : ByteArray} {rp rq : Nat × PS} (hp : PatOk p rp) (hq : PatOk q rq) : D (behindT p q) 0 0 st0 (behindR p q rp rq) := by
  have h1 : bOpen.size = 1 := rfl
  have h2 : bTwo.size = 2 := rfl
  have h3 : bShut.size = 1 := rfl
  have hX : ((bOpen ++ p) ++ bTwo).size = p.size + 3 := by simp only [ByteArray.size_append]; omega
  have hXq : (((bOpen ++ p) ++ bTwo) ++ q).size = p.size + q.size + 3 := by simp only [ByteArray.size_append]; omega
  have hop : (bOpen ++ p).size = p.size + 1 := by rw [ByteArray.size_append]; omega
  have ep : Emb p (behindT p q) (0 + 1) := by
    have := ((emb_of bOpen p bTwo (by decide)).more q).more bShut
    rw [h1] at this
    exact this
  have eq : Emb q (behindT p q) (p.size + 2 + 1) := by
    have := emb_of ((bOpen ++ p) ++ bTwo) q bShut (by decide)
    rw [hX] at this
    exact this
  have k0 : pk (behindT p q) 0 = 40 := by
    unfold behindT
    rw [pk_left (by omega), pk_left (by omega), pk_left (by omega), pk_left (by omega)]
    rfl
  have kmid : ∀ i, i < 2 → pk (behindT p q) (p.size + 1 + i) = pk bTwo i := fun i hi => by
    unfold behindT
    rw [pk_left (by omega), pk_left (by omega)]
    have := pk_right (bOpen ++ p) bTwo i
    rw [hop] at this
    exact this
  have k2 : pk (behindT p q) (p.size + 2) = 40 := by have := kmid 1 (by omega); rw [show p.size + 1 + 1 = p.size + 2 by omega] at this; rw [this]; rfl
  have kend : pk (behindT p q) (p.size + q.size + 4) = -1 := by rw [pk_none, behindT_size]; omega
  have g1 := grp k0 ep hp [] 0
  rw [show 0 + p.size + 2 = p.size + 2 by omega] at g1
  have g2 := grp k2 eq hq (shL [] rp.2.2) 0
  rw [show p.size + 2 + q.size + 2 = p.size + q.size + 4 by omega] at g2
  have he : behindR p q rp rq = joinS 4 (0 + rp.1) ((shL [] rp.2.2).length + rq.1) ((p.size + q.size + 4, false), shL (shL [] rp.2.2) rq.2.2) := by unfold behindR; rw [behindT_size]
  rw [he]
  refine D.pattern (D.branch (by unfold endS; simp only [st0, k0]; rfl) (D.piece g1 (D.repEnd (st_rep k2 (by omega)))) (D.and ?_ (D.piece g2 (D.repEnd (st_rep kend (by omega)))) (D.andEnd ?_))) (D.orEnd ?_)
  · unfold endS; simp only [k2]; rfl
  · show endS (behindT p q) (p.size + q.size + 4, false) = true
    unfold endS; simp only [kend]; rfl
  · show (takeS (behindT p q) 124 (p.size + q.size + 4, false)).1 = false
    unfold takeS; rw [kend, if_neg (by omega)]

/-- What is known of a composed pattern: its size, and what it matches. -/
theorem behind_facts {p q : ByteArray} {rp rq : Nat × PS} (hp : PatOk p rp) (hq : PatOk q rq) :
    Ev (behindT p q) 0 0 st0 (behindR p q rp rq) ∧ ¬ BadR (behindT p q) (behindR p q rp rq) ∧
    sizeAt (behindR p q rp rq).2.2 (behindR p q rp rq).1 = (if 61 < sizeAt rp.2.2 rp.1 + sizeAt rq.2.2 rq.1 then 61 else sizeAt rp.2.2 rp.1 + sizeAt rq.2.2 rq.1) ∧
    ∀ fold l i j, Mat (behindR p q rp rq).2.2 fold l (behindR p q rp rq).1 i j ↔ ∃ m, Mat rp.2.2 fold l rp.1 i m ∧ Mat rq.2.2 fold l rq.1 m j := by
  have op := hp.okay
  have oq := hq.okay
  have tp := op.top
  have tq := oq.top
  have e1 : shL [] rp.2.2 = [] ++ rp.2.2.map (shN 0) := rfl
  have s1 : sizeAt (shL (shL [] rp.2.2) rq.2.2) (0 + rp.1) = sizeAt rp.2.2 rp.1 := by
    show sizeAt (shL [] rp.2.2 ++ _) _ = _
    rw [sizeN_app (by simp [shL]; omega)]
    exact sh_sizeAt [] rp.2.2 rp.1
  have s2 := sh_sizeAt (shL [] rp.2.2) rq.2.2 rq.1
  have i1 : In rp.2.2 (behindR p q rp rq).2.2 0 := by
    have := in_shL [] rp.2.2 (rq.2.2.map (shN (shL [] rp.2.2).length) ++ [capN { kind := 4, left := ((0 + rp.1 : Nat) : Int), right := (((shL [] rp.2.2).length + rq.1 : Nat) : Int), size := sizeAt (shL (shL [] rp.2.2) rq.2.2) (0 + rp.1) + sizeAt (shL (shL [] rp.2.2) rq.2.2) ((shL [] rp.2.2).length + rq.1) }])
    rw [← List.append_assoc] at this
    exact this
  have i2 : In rq.2.2 (behindR p q rp rq).2.2 (shL [] rp.2.2).length := in_shL (shL [] rp.2.2) rq.2.2 _
  have hroot : (behindR p q rp rq).2.2[(behindR p q rp rq).1]? = some (capN { kind := 4, left := ((0 + rp.1 : Nat) : Int), right := (((shL [] rp.2.2).length + rq.1 : Nat) : Int), size := sizeAt (shL (shL [] rp.2.2) rq.2.2) (0 + rp.1) + sizeAt (shL (shL [] rp.2.2) rq.2.2) ((shL [] rp.2.2).length + rq.1) }) := by
    simp [behindR, joinS, addS]
  refine ⟨(behind_deriv hp hq).ev, ?_, ?_, fun fold l i j => ?_⟩
  · rintro (h | h)
    · exact nomatch (show false = true from h)
    · exact absurd (show (behindT p q).size < (behindT p q).size from h) (Nat.lt_irrefl _)
  · unfold sizeAt
    rw [hroot]
    simp only [Option.map_some, Option.getD_some, capN]
    rw [s1, s2]
    rfl
  · rw [Mat.two hroot rfl rfl rfl]
    have m1 := fun i j => Mat.emb op.ok i1 fold l (rp.1 + 1) rp.1 (by omega) (by omega) i j
    have m2 := fun i j => Mat.emb oq.ok i2 fold l (rq.1 + 1) rq.1 (by omega) (by omega) i j
    simp only [m1, m2]

theorem behindT_case {p q : ByteArray} {rp rq : Nat × PS} (hp : PatOk p rp) (hq : PatOk q rq) :
    (PatE (behindT p q) 3 ∧ (40 < (behindT p q).size ∨ 60 < sizeAt rp.2.2 rp.1 + sizeAt rq.2.2 rq.1)) ∨
    (PatOk (behindT p q) (behindR p q rp rq) ∧ sizeAt (behindR p q rp rq).2.2 (behindR p q rp rq).1 = sizeAt rp.2.2 rp.1 + sizeAt rq.2.2 rq.1) := by
  obtain ⟨f1, f2, f3, _⟩ := behind_facts hp hq
  by_cases h1 : 40 < (behindT p q).size
  · exact Or.inl ⟨Or.inl ⟨h1, rfl⟩, Or.inl h1⟩
  · by_cases h2 : 60 < sizeAt rp.2.2 rp.1 + sizeAt rq.2.2 rq.1
    · refine Or.inl ⟨Or.inr ⟨by omega, _, f1, Or.inr ⟨f2, ?_, rfl⟩⟩, Or.inr h2⟩
      rw [f3]; split <;> omega
    · have f4 : sizeAt (behindR p q rp rq).2.2 (behindR p q rp rq).1 = sizeAt rp.2.2 rp.1 + sizeAt rq.2.2 rq.1 := by rw [f3, if_neg (by omega)]
      exact Or.inr ⟨⟨by omega, f1, f2, by rw [f4]; omega⟩, f4⟩
theorem sel_behind {p q : ByteArray} {rp rq : Nat × PS} (hp : PatOk p rp) (hq : PatOk q rq) (h : PatOk (behindT p q) (behindR p q rp rq)) (ap : ¬ Anch p p.size) (aq : ¬ Anch q q.size) (fold : Bool) (s : ByteArray) :
    selB (behindR p q rp rq) fold true s = true ↔ ∃ i, i ≤ s.size ∧ selB rp fold true (s.extract 0 i) = true ∧ selB rq fold true (s.extract i s.size) = true := by
  obtain ⟨_, _, _, f4⟩ := behind_facts hp hq
  have np := pat_noAnch hp ap
  have nq := pat_noAnch hq aq
  rw [sel_whole h, f4]
  constructor
  · rintro ⟨m, h1, h2⟩
    have l1 := h1.le
    exact ⟨m, l1.2.1, (sel_whole hp fold _).2 ((mat_piece np fold s rp.1 (Nat.zero_le _) l1.2.1).2 h1), (sel_whole hq fold _).2 ((mat_piece nq fold s rq.1 l1.2.1 (Nat.le_refl _)).2 h2)⟩
  · rintro ⟨m, h0, h1, h2⟩
    exact ⟨m, (mat_piece np fold s rp.1 (Nat.zero_le _) h0).1 ((sel_whole hp fold _).1 h1), (mat_piece nq fold s rq.1 h0 (Nat.le_refl _)).1 ((sel_whole hq fold _).1 h2)⟩

end Go.Proofs.Ytgifhgnccmnbiaa

set_option linter.unusedVariables false
set_option linter.unusedSimpArgs false
namespace Go.Proofs.Ytgifhgnccmnbiaa
open Go.RowKit Go.IntWalk

set_option maxHeartbeats 2000000 in
set_option maxRecDepth 100000 in
/-- Nothing is said: one of the two is no pattern, or has a ^ or a $ in it. -/
theorem behind_free {p q : ByteArray} (h : (∃ x, PatE p x) ∨ (∃ x, PatE q x) ∨ Anch p p.size ∨ Anch q q.size) (line : ByteArray) (fold : Bool) (w : World) (hp : p.size ≤ maxLen) (hq : q.size ≤ maxLen) :
    Calls Try.prog 6 #[.string p, .string q, .string line, .bool fold] w fun e w' => e = .returned (.bool true) ∧ Below w.heap.size w w' := by
  have hma : Hid (∀ w, Calls _ _ _ w _) := fun w => matching_any w
  have hap : Hid (∀ w, Calls _ _ _ w _) := fun w => anchored_any p hp w
  have haq : Hid (∀ w, Calls _ _ _ w _) := fun w => anchored_any q hq w
  have key : ∃ n x m y : Int, 0 ≤ x ∧ x ≤ 3 ∧ 0 ≤ y ∧ y ≤ 3 ∧ (∀ w, Calls Try.prog 15 #[.string p] w fun e w' => e = .returned (.tuple #[.int .i64 n, .int .i64 x]) ∧ Below w.heap.size w w') ∧
      (∀ w, Calls Try.prog 15 #[.string q] w fun e w' => e = .returned (.tuple #[.int .i64 m, .int .i64 y]) ∧ Below w.heap.size w w') ∧ (x ≠ 0 ∨ y ≠ 0 ∨ anchB p = true ∨ anchB q = true) := by
    obtain ⟨m, y, y0, y3, _, _, hcq⟩ := check_case q hq
    obtain ⟨n, x, x0, x3, _, _, hcp⟩ := check_case p hp
    rcases h with ⟨z, h⟩ | ⟨z, h⟩ | h | h
    · exact ⟨0, z, m, y, by have := h.ne; omega, by have := h.ne; omega, y0, y3, fun w => check_bad h w hp, hcq, Or.inl (by have := h.ne; omega)⟩
    · exact ⟨n, x, 0, z, x0, x3, by have := h.ne; omega, by have := h.ne; omega, hcp, fun w => check_bad h w hq, Or.inr (Or.inl (by have := h.ne; omega))⟩
    · exact ⟨n, x, m, y, x0, x3, y0, y3, hcp, hcq, Or.inr (Or.inr (Or.inl (anchB_true h)))⟩
    · exact ⟨n, x, m, y, x0, x3, y0, y3, hcp, hcq, Or.inr (Or.inr (Or.inr (anchB_true h)))⟩
  obtain ⟨n, x, m, y, x0, x3, y0, y3, hcp, hcq, hany⟩ := key
  have hcp : Hid (∀ w, _) := hcp
  have hcq : Hid (∀ w, _) := hcq
  clear h
  generalize anchB p = X at *
  generalize anchB q = Y at *
  have walk : ∀ (cx cy : Bool), (x = 0 ↔ cx = true) → (y = 0 ↔ cy = true) → (cx = false ∨ cy = false ∨ X = true ∨ Y = true) → Calls Try.prog 6 #[.string p, .string q, .string line, .bool fold] w fun e w' => e = .returned (.bool true) ∧ Below w.heap.size w w' := by
    intro cx cy e1 e2 e3
    clear hany
    cases cx <;> cases cy <;> cases X <;> cases Y <;> simp at e1 e2 e3 <;>
    · go_enter Try.func6, Try.ntmps6
      go_wp2_with (first
        | (go_at_call 20; refine (hma.out _).mono ?_; rintro e w1 ⟨rfl, b1⟩)
        | (go_at_call 15; with_reducible refine (hcp.out _).mono ?_; rintro e w2 ⟨rfl, b2⟩; have B2 := b1.trans (b2.mono b1.size); clear hcp)
        | (go_at_call 15; with_reducible refine (hcq.out _).mono ?_; rintro e w3 ⟨rfl, b3⟩; have B3 := B2.trans (b3.mono B2.size); clear hcq)
        | (go_at_call 23; with_reducible refine (hap.out _).mono ?_; rintro e w4 ⟨rfl, h4⟩; have h4' := h4.symm; subst h4'; clear hap)
        | (go_at_call 23; with_reducible refine (haq.out _).mono ?_; rintro e w5 ⟨rfl, h5⟩; have h5' := h5.symm; subst h5'; clear haq))
      go_ret
      exact ⟨rfl, B3⟩
  refine walk (decide (x = 0)) (decide (y = 0)) (by simp) (by simp) ?_
  rcases hany with h | h | h | h
  · exact Or.inl (decide_eq_false h)
  · exact Or.inr (Or.inl (decide_eq_false h))
  · exact Or.inr (Or.inr (Or.inl h))
  · exact Or.inr (Or.inr (Or.inr h))

end Go.Proofs.Ytgifhgnccmnbiaa

set_option linter.unusedVariables false
set_option linter.unusedSimpArgs false
namespace Go.Proofs.Ytgifhgnccmnbiaa
open Go.RowKit Go.IntWalk

set_option maxHeartbeats 2000000 in
set_option maxRecDepth 100000 in
theorem behind_big {p q : ByteArray} {rp rq : Nat × PS} (hp : PatOk p rp) (hq : PatOk q rq) (ap : ¬ Anch p p.size) (aq : ¬ Anch q q.size) (hE : PatE (behindT p q) 3) (hb : 40 < (behindT p q).size ∨ 60 < sizeAt rp.2.2 rp.1 + sizeAt rq.2.2 rq.1) (line : ByteArray) (fold : Bool) (w : World) :
    Calls Try.prog 6 #[.string p, .string q, .string line, .bool fold] w fun e w' => e = .returned (.bool true) ∧ Below w.heap.size w w' := by
  have hma : Hid (∀ w, Calls _ _ _ w _) := fun w => matching_any w
  have hc : Hid (∀ w, Calls _ _ _ w _) := fun w => check_ok hp w
  have hcq : Hid (∀ w, Calls _ _ _ w _) := fun w => check_ok hq w
  have p40 := hp.small
  have q40 := hq.small
  have p60 := hp.size
  have q60 := hq.size
  have p1 := (hp.okay.ok.size (i := rp.1) (by have := hp.okay.top; omega)).1
  have q1 := (hq.okay.ok.size (i := rq.1) (by have := hq.okay.top; omega)).1
  have hap : Hid (∀ w, Calls _ _ _ w _) := fun w => anchored_any p (by unfold maxLen; omega) w
  have haq : Hid (∀ w, Calls _ _ _ w _) := fun w => anchored_any q (by unfold maxLen; omega) w
  rw [anchB_false ap] at hap
  rw [anchB_false aq] at haq
  have hsz : Hid (∀ w, Calls _ _ _ w _) := fun w => sized_no hE (sizeAt rp.2.2 rp.1 + sizeAt rq.2.2 rq.1) (by rw [behindT_size]; unfold maxLen; omega) hb w
  unfold behindT bOpen bTwo bShut at hsz
  clear hE hb hp hq ap aq
  generalize sizeAt rp.2.2 rp.1 = n at *
  generalize sizeAt rq.2.2 rq.1 = m at *
  go_enter Try.func6, Try.ntmps6
  go_wp2_with (first
    | (go_at_call 20; refine (hma.out _).mono ?_; rintro e w1 ⟨rfl, b1⟩)
    | (go_at_call 15; with_reducible refine (hc.out _).mono ?_; rintro e w2 ⟨rfl, b2⟩; have B2 := b1.trans (b2.mono b1.size); clear hc)
    | (go_at_call 15; with_reducible refine (hcq.out _).mono ?_; rintro e w3 ⟨rfl, b3⟩; have B3 := B2.trans (b3.mono B2.size); clear hcq)
    | (go_at_call 23; with_reducible refine (hap.out _).mono ?_; rintro e w4 ⟨rfl, h4⟩; have h4' := h4.symm; subst h4'; clear hap)
    | (go_at_call 23; with_reducible refine (haq.out _).mono ?_; rintro e w5 ⟨rfl, h5⟩; have h5' := h5.symm; subst h5'; clear haq)
    | (go_at_call 21; with_reducible refine (hsz.out _).mono ?_; rintro e w6 ⟨rfl, b6⟩; have B6 := B3.trans (b6.mono B3.size)))
  go_ret
  exact ⟨rfl, B6⟩

/-- The line falls into two, ahead of place q. -/
structure FndB (PP QQ : Nat → Bool) (n q : Nat) (fv : Value) : Prop where
  out : ∃ b : Bool, fv = .bool b ∧ (b = true ↔ ∃ i, i < q ∧ i ≤ n ∧ PP i = true ∧ QQ i = true)
structure FndC (PP QQ : Nat → Bool) (n : Nat) (Y : Bool) : Prop where
  out : Y = true ↔ ∃ i, i ≤ n ∧ PP i = true ∧ QQ i = true

set_option maxHeartbeats 4000000 in
set_option maxRecDepth 100000 in
theorem behind_ok {p q : ByteArray} {rp rq : Nat × PS} (hp : PatOk p rp) (hq : PatOk q rq) (ap : ¬ Anch p p.size) (aq : ¬ Anch q q.size) (hE : PatOk (behindT p q) (behindR p q rp rq)) (hn : sizeAt (behindR p q rp rq).2.2 (behindR p q rp rq).1 = sizeAt rp.2.2 rp.1 + sizeAt rq.2.2 rq.1) (line : ByteArray) (fold : Bool) (w : World) (hl : line.size ≤ maxLen) :
    Calls Try.prog 6 #[.string p, .string q, .string line, .bool fold] w fun e w' => e = .returned (.bool true) ∧ Below w.heap.size w w' := by
  have hma : Hid (∀ w, Calls _ _ _ w _) := fun w => matching_any w
  have hc : Hid (∀ w, Calls _ _ _ w _) := fun w => check_ok hp w
  have hcq : Hid (∀ w, Calls _ _ _ w _) := fun w => check_ok hq w
  have hs : Hid (∀ w, Calls _ _ _ w _) := fun w => short_any line hl w
  have p40 := hp.small
  have q40 := hq.small
  have p60 := hp.size
  have q60 := hq.size
  have p1 := (hp.okay.ok.size (i := rp.1) (by have := hp.okay.top; omega)).1
  have q1 := (hq.okay.ok.size (i := rq.1) (by have := hq.okay.top; omega)).1
  have hap : Hid (∀ w, Calls _ _ _ w _) := fun w => anchored_any p (by unfold maxLen; omega) w
  have haq : Hid (∀ w, Calls _ _ _ w _) := fun w => anchored_any q (by unfold maxLen; omega) w
  rw [anchB_false ap] at hap
  rw [anchB_false aq] at haq
  have hb1 : ∀ b : Bool, (b != false) = b := fun b => by cases b <;> rfl
  have hmE : Hid (∀ s, IsLine s → ∀ w, Calls _ _ _ w _) := fun s hss w => match_ok hE false fold true false s w hss
  simp only [hb1] at hmE
  clear hb1
  have hwp : Hid (∀ s, IsLine s → ∀ i w, Calls _ _ _ w _) := fun s hss i w => whole_ok hp fold (s.extract 0 i) (piece_line hss 0 i) w
  have hwq : Hid (∀ s, IsLine s → ∀ i w, Calls _ _ _ w _) := fun s hss i w => whole_ok hq fold (s.extract i s.size) (piece_line hss i s.size) w
  have hsel : Hid (∀ s : ByteArray, FndC (fun i => selB rp fold true (s.extract 0 i)) (fun i => selB rq fold true (s.extract i s.size)) s.size (selB (behindR p q rp rq) fold true s)) := fun s => ⟨sel_behind hp hq hE ap aq fold s⟩
  have hsz : Hid (∀ w, Calls _ _ _ w _) := fun w => sized_yes hE w
  rw [hn] at hsz
  unfold behindT bOpen bTwo bShut at hsz hmE
  clear hE hp hq hn ap aq
  generalize sizeAt rp.2.2 rp.1 = n at *
  generalize sizeAt rq.2.2 rq.1 = m at *
  go_enter Try.func6, Try.ntmps6
  go_wp2_with (first
    | (go_at_call 20; refine (hma.out _).mono ?_; rintro e w1 ⟨rfl, b1⟩)
    | (go_at_call 15; with_reducible refine (hc.out _).mono ?_; rintro e w2 ⟨rfl, b2⟩; have B2 := b1.trans (b2.mono b1.size); clear hc)
    | (go_at_call 15; with_reducible refine (hcq.out _).mono ?_; rintro e w3 ⟨rfl, b3⟩; have B3 := B2.trans (b3.mono B2.size); clear hcq)
    | (go_at_call 23; with_reducible refine (hap.out _).mono ?_; rintro e w4 ⟨rfl, h4⟩; have h4' := h4.symm; subst h4'; clear hap)
    | (go_at_call 23; with_reducible refine (haq.out _).mono ?_; rintro e w5 ⟨rfl, h5⟩; have h5' := h5.symm; subst h5'; clear haq)
    | (go_at_call 21; with_reducible refine (hsz.out _).mono ?_; rintro e w6 ⟨rfl, b6⟩; have B6 := B3.trans (b6.mono B3.size); clear hsz))
  refine (hs.out _).mono ?_
  rintro e w7 ⟨v, rfl, s, rfl, h7⟩
  have B7 : Below w.heap.size w w7 := B6.trans (h7.bel.mono B6.size)
  have z7 := h7.size
  have l7 : Hid (IsLine s) := h7.line
  clear h7 hs B2 B3 B6 b1 b2 b3 b6 hma
  have hE2 : Hid (∀ w, Calls _ _ _ w _) := fun w => hmE.out s l7.out w
  have hp2 : Hid (∀ i w, Calls _ _ _ w _) := fun i w => hwp.out s l7.out i w
  have hq2 : Hid (∀ i w, Calls _ _ _ w _) := fun i w => hwq.out s l7.out i w
  have hC := hsel.out s
  clear hmE hwp hwq hsel
  generalize selB (behindR p q rp rq) fold true s = Y at *
  generalize hPP : (fun i => selB rp fold true (s.extract 0 i)) = PP at *
  generalize hQQ : (fun i => selB rq fold true (s.extract i s.size)) = QQ at *
  have hp3 : Hid (∀ i w, Calls Try.prog 24 #[.string p, .bool fold, .string (s.extract 0 i)] w fun e w' => e = .returned (.bool (PP i)) ∧ Below w.heap.size w w') := by rw [← hPP]; exact hp2.out
  have hq3 : Hid (∀ i w, Calls Try.prog 24 #[.string q, .bool fold, .string (s.extract i s.size)] w fun e w' => e = .returned (.bool (QQ i)) ∧ Below w.heap.size w w') := by rw [← hQQ]; exact hq2.out
  clear hp2 hq2 hPP hQQ
  go_wp2_with fail
  go_loopw [19, 20] (fun fv iv wr => ∃ (q : Nat), iv = .int .i64 (q : Int) ∧ q ≤ s.size + 1 ∧ FndB PP QQ s.size q fv ∧ Below w.heap.size w wr) (fun _ iv _ => ((s.size : Int) + 1 - intOf iv).toNat)
  case atStart => exact ⟨0, rfl, by omega, ⟨false, rfl, Iff.intro (fun h => by cases h) (fun ⟨i, h, _⟩ => absurd h (Nat.not_lt_zero _))⟩, B7⟩
  case round =>
    obtain ⟨k, rfl, hk, ⟨b, rfl, hb⟩, hbel⟩ := hrel
    by_cases hlt : (k : Int) ≤ (s.size : Int)
    · have hkn : k ≤ s.size := by omega
      have hnext : FndC (fun i => PP i && decide (i < k + 1)) QQ s.size (b || (PP k && QQ k)) := by
        constructor
        rw [Bool.or_eq_true, Bool.and_eq_true, hb]
        constructor
        · rintro (⟨i, h1, h2, h3, h4⟩ | ⟨h1, h2⟩)
          · exact ⟨i, h2, by simp [h3]; omega, h4⟩
          · exact ⟨k, hkn, by simp [h1], h2⟩
        · rintro ⟨i, h1, h2, h3⟩
          simp only [Bool.and_eq_true, decide_eq_true_eq] at h2
          by_cases hik : i = k
          · subst hik; exact Or.inr ⟨h2.1, h3⟩
          · exact Or.inl ⟨i, by omega, h1, h2.1, h3⟩
      have hfin : Hid (∀ X : Bool, X = (b || (PP k && QQ k)) → FndB PP QQ s.size (k + 1) (.bool X)) := fun X hX => ⟨X, rfl, by
        rw [hX, hnext.out]
        constructor
        · rintro ⟨i, h1, h2, h3⟩
          simp only [Bool.and_eq_true, decide_eq_true_eq] at h2
          exact ⟨i, h2.2, h1, h2.1, h3⟩
        · rintro ⟨i, h1, h2, h3, h4⟩; exact ⟨i, h2, by simp [h3, h1], h4⟩⟩
      have hcp : Hid (∀ w, Calls _ _ _ w _) := fun w => hp3.out k w
      have hcq : Hid (∀ w, Calls _ _ _ w _) := fun w => hq3.out k w
      clear hnext hb hp3 hq3 hE2 hC
      generalize PP k = X1 at *
      generalize QQ k = X2 at *
      cases b <;> cases X1 <;> cases X2 <;>
      · have hf := hfin.out _ rfl
        go_wp2_with (first
          | (go_at_call 24; with_reducible refine (hcp.out _).mono ?_; rintro e w8 ⟨rfl, b8⟩; have B8 := hbel.trans (b8.mono hbel.size); clear hcp)
          | (go_at_call 24; with_reducible refine (hcq.out _).mono ?_; rintro e w9 ⟨rfl, b9⟩; have B9 := B8.trans (b9.mono B8.size); clear hcq))
        refine ⟨⟨k + 1, by go_num, by omega, hf, B9⟩, ?_⟩
        simp only [intOf]; omega
    · have hbY : b = Y := by
        rw [Bool.eq_iff_iff, hb, hC.out]
        constructor
        · rintro ⟨i, _, h2⟩; exact ⟨i, h2⟩
        · rintro ⟨i, h1, h2⟩; exact ⟨i, by omega, h1, h2⟩
      subst hbY
      clear hb hp3 hq3 hC
      cases b <;>
      · go_wp2_with (go_at_call 18; with_reducible refine (hE2.out _).mono ?_; rintro e w8 ⟨rfl, b8⟩; have B8 := hbel.trans (b8.mono hbel.size))
        go_ret
        exact ⟨rfl, B8⟩

theorem behind_law (p q line : ByteArray) (fold : Bool) (w : World) (hp : p.size ≤ maxLen) (hq : q.size ≤ maxLen) (hl : line.size ≤ maxLen) :
    Calls Try.prog 6 #[.string p, .string q, .string line, .bool fold] w fun e w' => e = .returned (.bool true) ∧ Below w.heap.size w w' := by
  rcases pat_cases p with h | ⟨rp, h1⟩
  · exact behind_free (Or.inl h) line fold w hp hq
  · rcases pat_cases q with h | ⟨rq, h2⟩
    · exact behind_free (Or.inr (Or.inl h)) line fold w hp hq
    · by_cases ap : Anch p p.size
      · exact behind_free (Or.inr (Or.inr (Or.inl ap))) line fold w hp hq
      · by_cases aq : Anch q q.size
        · exact behind_free (Or.inr (Or.inr (Or.inr aq))) line fold w hp hq
        · rcases behindT_case h1 h2 with ⟨h3, h4⟩ | ⟨h3, h4⟩
          · exact behind_big h1 h2 ap aq h3 h4 line fold w
          · exact behind_ok h1 h2 ap aq h3 h4 line fold w hl

end Go.Proofs.Ytgifhgnccmnbiaa

namespace Go.Proofs.Ytgifhgnccmnbiaa.behindN
open Go.ChangeShapes Go.WideShapes Go.ChangeAt Go.RowKit
open Go.ChangeMaps (open_string shut_string)
set_option linter.unusedVariables false

theorem own : ownKnob Try.prog.godebug = none := by kernel_rfl

set_option maxRecDepth 100000 in
theorem lifted (os : Os) (started : os.Started) (H : Type) (enc : TypeId × Value → H) :
    ReturnsInHanded {} Try.checked os 6 .any (Rows.behindSpec.pre6 enc Try.prog Try.f6 Rows.behindRow.domain false) (Rows.behindSpec.post enc Try.prog Try.f6 false true false false) := by
  refine returnsInHanded_of_change (C := Try.checked) own started (by kernel_rfl) Try.func6
    (ChangeSpec.witness6 (enc := enc) (C := Try.checked) false ⟨#[], #[.string ByteArray.empty, .string ByteArray.empty, .string ByteArray.empty, .bool false], []⟩ 8 (by kernel_rfl) (by kernel_rfl) (by kernel_rfl) (by kernel_rfl)) ?_
  intro W base args ds gs before hval0 hW hcnd _
  have hval : ∀ (j : Nat) t v, Try.f6.params[j]? = some t → args[j]? = some v → Value.okWide Try.prog W .any base t v := hval0
  have hW' := hW
  obtain ⟨p, q, hA0, hV, rfl, hfz, hnd⟩ := hW
  have hA : DataW.TrodAll enc Try.prog W 0 (fun _ => true) true Try.f6.params.toList args.toList ds p := hA0
  rw [Try.params6] at hA hval
  obtain ⟨v0, vs0, d0, ds0, p0, q0, hargs, rfl, rfl, h0, r0⟩ := trodAll_cons hA
  obtain ⟨v1, vs1, d1, ds1, p1, q1, rfl, rfl, rfl, h1, r1⟩ := trodAll_cons r0
  obtain ⟨v2, vs2, d2, ds2, p2, q2, rfl, rfl, rfl, h2, r2⟩ := trodAll_cons r1
  obtain ⟨v3, vs3, d3, ds3, p3, q3, rfl, rfl, rfl, h3, r3⟩ := trodAll_cons r2
  obtain ⟨rfl, rfl, rfl⟩ := trodAll_nil r3
  obtain rfl : args = #[v0, v1, v2, v3] := by cases args; simp_all
  obtain ⟨rfl, rfl⟩ := trodVars_none hV
  obtain ⟨a0, rfl, rfl, rfl, w0⟩ := open_string Try.underlying9 (hval 0 9 v0 rfl rfl) h0
  obtain ⟨a1, rfl, rfl, rfl, w1⟩ := open_string Try.underlying9 (hval 1 9 v1 rfl rfl) h1
  obtain ⟨a2, rfl, rfl, rfl, w2⟩ := open_string Try.underlying9 (hval 2 9 v2 rfl rfl) h2
  obtain ⟨a3, rfl, rfl, rfl⟩ := open_bool Try.underlying4 (hval 3 4 v3 rfl rfl) h3
  clear hA0 hval0
  simp only [List.append_nil] at hW'
  refine (behind_law a0 a1 a2 a3 W w0 w1 w2).mono fun e W' ⟨he, bel⟩ => ?_
  subst he
  exact ⟨_, rfl, _, _, _, [], _, [], hW', trodAll_mk1 (shut_bool Try.underlying4 _), (trodAll_cons_mk (shut_string Try.underlying9 w0) (trodAll_cons_mk (shut_string Try.underlying9 w1) (trodAll_cons_mk (shut_string Try.underlying9 w2) (trodAll_cons_mk (shut_bool Try.underlying4 _) trodAll_mk0)))), rfl, bel.frame _, fun h => by cases h⟩

theorem over : Rows.behindRow.holds Try.pinned (OpenSpec.ofChange Rows.behindSpec) :=
  OpenClaim.holds_of_wide 6 Try.f6 rfl rfl rfl rfl rfl rfl rfl ⟨rfl, rfl, rfl, rfl, rfl⟩ rfl rfl rfl rfl rfl (by kernel_rfl) Try.func6 (by kernel_rfl)
    (of_decide_eq_true (by kernel_rfl)) (by unfold Func.isWrapper; first | (rw [if_pos (by decide +kernel)]; kernel_rfl) | (rw [if_neg (by decide +kernel)]; exact ⟨rfl, rfl⟩))
    (fun os started H enc _ => lifted os started H enc)

end Go.Proofs.Ytgifhgnccmnbiaa.behindN
namespace Go.Proofs.Ytgifhgnccmnbiaa

theorem behind_holds : Rows.BehindSaid := behindN.over
#print axioms behind_holds

end Go.Proofs.Ytgifhgnccmnbiaa
