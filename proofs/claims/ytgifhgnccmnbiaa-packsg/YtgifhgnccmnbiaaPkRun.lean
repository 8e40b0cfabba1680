/- Package packed: files of codes, as plain functions. No Go in it. -/
import Derived.Test.YtgifhgnccmnbiaaPkTake
set_option linter.unusedVariables false
set_option linter.unusedSimpArgs false
namespace Go.Proofs.Ytgifhgnccmnbiaa
open Go.RowKit Go.IntWalk

def zwide (s : CD × TT) : Nat := widP (freeN s.2 s.1) s.1.most
def zgo (s : CD × TT) : Bool := !s.1.bad && decide (s.1.p + zwide s ≤ 8 * s.1.B.size)
def zstep (s : CD × TT) : CD × TT := takeC { s.1 with p := (numB s.1.B s.1.p (zwide s)).2 } s.2 (numB s.1.B s.1.p (zwide s)).1
def zit (s : CD × TT) : Nat → CD × TT
  | 0 => s
  | n + 1 => zstep (zit s n)

/-- What stays as codes are taken. -/
structure ZI (B : ByteArray) (most n : Nat) (s : CD × TT) : Prop where
  bytes : s.1.B = B
  most : s.1.most = most
  p : 9 * n ≤ s.1.p
  pb : s.1.p ≤ 8 * B.size
  syms : s.2.syms = n
  rules : s.2.rules.length ≤ n
  start : s.2.start.length ≤ n
  gone : s.1.gone ≤ s.2.rules.length
  ahead : ∀ a, s.1.ahead = some a → a < 256 + s.2.rules.length
  first : ∀ x, x ∈ s.2.rules → x.pt.first ≤ 255
theorem part_first {rs : List RU} (h : ∀ x, x ∈ rs → x.pt.first ≤ 255) (s : Nat) : (partAt rs s).first ≤ 255 := by
  unfold partAt
  split
  · show s ≤ 255; omega
  · cases hx : rs[s - 256]? with
    | none => show 0 ≤ 255; omega
    | some x => exact h x (List.mem_of_getElem? hx)
theorem join_first {a b : PT} (ha : a.first ≤ 255) (hb : b.first ≤ 255) : (joinP a b).first ≤ 255 := by
  unfold joinP; split
  · exact hb
  · split
    · exact ha
    · exact ha
theorem ZI.fb {B : ByteArray} {m n : Nat} {s : CD × TT} (h : ZI B m n s) (a code F : Nat) : firstC s.2 s.1.gone a code F ≤ 255 := part_first h.first _

theorem ZI.step {B : ByteArray} {m n : Nat} {s : CD × TT} (h : ZI B m n s) (hg : zgo s = true) : ZI B m (n + 1) (zstep s) := by
  obtain ⟨c, t⟩ := s
  unfold zgo at hg
  simp only [Bool.and_eq_true, decide_eq_true_eq] at hg
  obtain ⟨_, hg⟩ := hg
  have h1 := h.bytes; have h2 := h.most; have h3 := h.p; have h4 := h.syms; have h5 := h.rules; have h6 := h.start; have h7 := h.gone; have h8 := h.ahead; have h9 := h.first
  have hb := numB_bd c.B c.p (zwide (c, t))
  have hw := widP_bd (freeN t c) c.most
  have ew : zwide (c, t) = widP (freeN t c) c.most := rfl
  simp only [] at h1 h2 h3 h4 h5 h6 h7 h8 h9 hg
  have hfull : (numB c.B c.p (zwide (c, t))).2 = c.p + zwide (c, t) := by
    have key : ∀ i, c.p + i ≤ 8 * c.B.size → (numB c.B c.p i).2 = c.p + i := by
      intro i
      induction i with
      | zero => intro _; rfl
      | succ i ih =>
        intro hi
        show (nextB c.B (numB c.B c.p i).2).2 = _
        rw [ih (by omega)]
        unfold nextB; rw [if_pos (by omega)]; rfl
    exact key _ hg
  unfold zstep takeC
  simp only []
  generalize (numB c.B c.p (zwide (c, t))).1 = code at *
  rw [hfull]
  have hpb : c.p + zwide (c, t) ≤ 8 * B.size := by rw [← h1]; exact hg
  split
  · exact ⟨h1, h2, by simp only []; omega, hpb, by simp only [upSyms]; omega, by simp only [upSyms]; omega, by simp only [upSyms]; omega, Nat.le_refl _, (fun a ha => nomatch ha), h9⟩
  · split
    · exact ⟨h1, h2, by simp only []; omega, hpb, by simp only [upSyms]; omega, by simp only [upSyms]; omega, by simp only [upSyms]; omega, h7, h8, h9⟩
    · rename_i hne hbad
      have hnb : ¬ badC { c with p := c.p + zwide (c, t) } code (freeN t { c with p := c.p + zwide (c, t) }) := hbad
      unfold badC at hnb
      have eF : freeN t { c with p := c.p + zwide (c, t) } = 257 + t.rules.length - c.gone := rfl
      rw [eF] at hnb ⊢
      have hsy : symC c.gone code < 256 + t.rules.length + (if (joinsC { c with p := c.p + zwide (c, t) } (257 + t.rules.length - c.gone)).isSome then 1 else 0) := by
        have hle : code ≤ 257 + t.rules.length - c.gone := by omega
        unfold symC
        cases hj : joinsC { c with p := c.p + zwide (c, t) } (257 + t.rules.length - c.gone) with
        | none =>
          have : code ≠ 257 + t.rules.length - c.gone := fun hc => hnb (Or.inr ⟨hc, hj⟩)
          simp only [Option.isSome]
          split <;> simp <;> omega
        | some a =>
          simp only [Option.isSome]
          split <;> simp <;> omega
      cases hj : joinsC { c with p := c.p + zwide (c, t) } (257 + t.rules.length - c.gone) with
      | none =>
        rw [hj] at hsy
        refine ⟨h1, h2, by simp only []; omega, hpb, by simp only [takeT, addStart, upSyms]; omega, by simp only [takeT, addStart, upSyms]; omega, by simp only [takeT, addStart, upSyms, List.length_append, List.length_singleton]; omega, h7, fun a ha => ?_, h9⟩
        simp only [Option.some.injEq] at ha
        subst ha
        simpa [takeT, addStart, upSyms] using hsy
      | some a =>
        rw [hj] at hsy
        refine ⟨h1, h2, by simp only []; omega, hpb, by simp only [takeT, addStart, addRuleT, upSyms]; omega, by simp only [takeT, addStart, addRuleT, upSyms, List.length_append, List.length_singleton]; omega, by simp only [takeT, addStart, addRuleT, upSyms, List.length_append, List.length_singleton]; omega, by simp only [takeT, addStart, addRuleT, upSyms, List.length_append, List.length_singleton]; omega, fun b hb => ?_, fun x hx => ?_⟩
        · simp only [Option.some.injEq] at hb
          subst hb
          simp only [takeT, addStart, addRuleT, upSyms, List.length_append, List.length_singleton]
          simp at hsy
          omega
        · simp only [takeT, addStart, addRuleT, upSyms] at hx
          rcases List.mem_append.1 hx with hx | hx
          · exact h9 x hx
          · simp at hx
            subst hx
            exact join_first (part_first h9 _) (part_first h9 _)

def cd0 (f : ByteArray) : CD := { B := f.extract 3 f.size, p := 0, most := bt f 2 }
def z0 (f : ByteArray) : CD × TT := (cd0 f, { kind := 90 })
theorem z0_inv (f : ByteArray) : ZI (f.extract 3 f.size) (bt f 2) 0 (z0 f) := ⟨rfl, rfl, Nat.le_refl _, Nat.zero_le _, rfl, Nat.le_refl _, Nat.le_refl _, Nat.le_refl _, (fun a ha => nomatch ha), (fun x hx => nomatch hx)⟩
/-- So many codes are read, and no more. -/
structure ZRun (f : ByteArray) (n : Nat) : Prop where
  on : ∀ i, i < n → zgo (zit (z0 f) i) = true
  off : zgo (zit (z0 f) n) = false
theorem zit_inv {f : ByteArray} : ∀ {n : Nat}, (∀ i, i < n → zgo (zit (z0 f) i) = true) → ZI (f.extract 3 f.size) (bt f 2) n (zit (z0 f) n)
  | 0, _ => z0_inv f
  | n + 1, h => (zit_inv (fun i hi => h i (by omega))).step (h n (by omega))
theorem ZRun.one {f : ByteArray} {n m : Nat} (h : ZRun f n) (h' : ZRun f m) : n = m := by
  rcases Nat.lt_trichotomy n m with hl | hl | hl
  · have := h'.on n hl; rw [h.off] at this; cases this
  · exact hl
  · have := h.on m hl; rw [h'.off] at this; cases this
def zOk (s : CD × TT) : Bool := !s.1.bad && endB s.1.B s.1.p
def zMost (f : ByteArray) : Bool := decide (3 ≤ f.size) && decide (9 ≤ bt f 2) && decide (bt f 2 ≤ 12)

end Go.Proofs.Ytgifhgnccmnbiaa
