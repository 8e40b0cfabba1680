/- Patterns put together of others in brackets: how they are read. No Go in it. -/
import Derived.Test.YtjhmkkhnnijigaaPieceOf
import Derived.Test.YtjhmkkhnnijigaaMatOf
set_option linter.unusedVariables false
set_option linter.unusedSimpArgs false
namespace Go.Proofs.Ytjhmkkhnnijigaa

theorem pk_left {x y : ByteArray} {i : Nat} (h : i < x.size) : pk (x ++ y) i = pk x i := by
  rw [pk_lt h, pk_lt (by rw [ByteArray.size_append]; omega), ByteArray.getElem_append_left h]
theorem pk_right (x y : ByteArray) (i : Nat) : pk (x ++ y) (x.size + i) = pk y i := by
  by_cases h : i < y.size
  · rw [pk_lt h, pk_lt (by rw [ByteArray.size_append]; omega), ByteArray.getElem_append_right (by omega)]
    simp only [show x.size + i - x.size = i by omega]
  · rw [pk_ge h, pk_ge (by rw [ByteArray.size_append]; omega)]
theorem emb_of (x p y : ByteArray) (hy : pk y 0 = 41) : Emb p ((x ++ p) ++ y) x.size := by
  refine ⟨fun i hi => ?_, ?_⟩
  · rw [pk_left (by rw [ByteArray.size_append]; omega)]; exact pk_right x p i
  · have := pk_right (x ++ p) y 0
    rw [ByteArray.size_append, Nat.add_zero] at this
    rw [this]; exact hy
theorem Emb.more {p t : ByteArray} {a : Nat} (e : Emb p t a) (z : ByteArray) : Emb p (t ++ z) a := by
  have h := emb_lt e
  exact ⟨fun i hi => by rw [pk_left (by omega)]; exact e.byte i hi, by rw [pk_left h]; exact e.stop⟩

theorem PatOk.deriv {p : ByteArray} {r : Nat × PS} (h : PatOk p r) : D p 0 0 st0 r := h.ev.deriv (Nat.zero_le _)
theorem PatOk.pos {p : ByteArray} {r : Nat × PS} (h : PatOk p r) : r.2.1 = (p.size, false) := by
  have hb : r.2.1.2 = false := by
    cases hc : r.2.1.2 with
    | false => rfl
    | true => exact absurd (Or.inl hc) h.good
  have hp : ¬ r.2.1.1 < p.size := fun hc => h.good (Or.inr hc)
  have hf : r.2.1.1 ≤ p.size := (h.deriv.fw (Nat.zero_le _)).fit
  have he : r.2.1.1 = p.size := by omega
  exact Prod.ext he hb

/-- A pattern in brackets. -/
theorem grp {p t : ByteArray} {a : Nat} (hpk : pk t a = 40) (e : Emb p t (a + 1)) {r : Nat × PS} (h : PatOk p r) (pre : List AN) (cur : Nat) :
    D t 3 cur ((a, false), pre) (pre.length + r.1, ((a + p.size + 2, false), shL pre r.2.2)) := by
  have hd := (h.deriv.shift e pre (Nat.zero_le _) (by rw [h.pos])).cur (by omega) 0
  have hs : shSt (a + 1) pre st0 = ((a + 1, false), pre) := by simp [shSt, shP, shL, st0]
  rw [hs] at hd
  have hn : nextS t (a, false) = (40, (a + 1, false)) := by unfold nextS; rw [hpk, if_neg (by omega)]
  have hc : takeS t 41 (shR (a + 1) pre r).2.1 = (true, (a + p.size + 2, false)) := by
    simp only [shR, shSt, shP]
    rw [h.pos]
    unfold takeS
    simp only []
    rw [e.stop, if_pos rfl]
    simp only [Prod.mk.injEq, true_and, and_true]
    omega
  have hg := D.group (t := t) (cur := cur) (st := ((a, false), pre)) (r1 := shR (a + 1) pre r) (by show (nextS t (a, false)).1 = 40; rw [hn]) (by show D t 0 0 ((nextS t (a, false)).2, pre) _; rw [hn]; exact hd)
  rw [closeS_eq hc] at hg
  exact hg

theorem st_rep {t : ByteArray} {a : Nat} {c : Int} (h : pk t a = c) (hc : c ≠ 42 ∧ c ≠ 43 ∧ c ≠ 63 ∧ c ≠ 123) : repS t (a, false) = false := by
  unfold repS
  simp only [h]
  simp [hc.1, hc.2.1, hc.2.2.1, hc.2.2.2]

def bOpen : ByteArray := ⟨#[40]⟩
def bMid : ByteArray := ⟨#[41, 124, 40]⟩
def bShut : ByteArray := ⟨#[41]⟩
/-- (p)|(q) -/
def eitherT (p q : ByteArray) : ByteArray := (((bOpen ++ p) ++ bMid) ++ q) ++ bShut
theorem eitherT_size (p q : ByteArray) : (eitherT p q).size = p.size + q.size + 5 := by
  unfold eitherT
  simp only [ByteArray.size_append]
  have h1 : bOpen.size = 1 := rfl
  have h2 : bMid.size = 3 := rfl
  have h3 : bShut.size = 1 := rfl
  omega

/-- What is read of it: the nodes of both, and one that stands for either. -/
def eitherR (p q : ByteArray) (rp rq : Nat × PS) : Nat × PS :=
  joinS 5 (0 + rp.1) ((shL [] rp.2.2).length + rq.1) (((eitherT p q).size, false), shL (shL [] rp.2.2) rq.2.2)

theorem either_deriv {p q : ByteArray} {rp rq : Nat × PS} (hp : PatOk p rp) (hq : PatOk q rq) : D (eitherT p q) 0 0 st0 (eitherR p q rp rq) := by
  have h1 : bOpen.size = 1 := rfl
  have h2 : bMid.size = 3 := rfl
  have h3 : bShut.size = 1 := rfl
  have hX : ((bOpen ++ p) ++ bMid).size = p.size + 4 := by simp only [ByteArray.size_append]; omega
  have hXq : (((bOpen ++ p) ++ bMid) ++ q).size = p.size + q.size + 4 := by simp only [ByteArray.size_append]; omega
  have hop : (bOpen ++ p).size = p.size + 1 := by rw [ByteArray.size_append]; omega
  have ep : Emb p (eitherT p q) (0 + 1) := by
    have := ((emb_of bOpen p bMid (by decide)).more q).more bShut
    rw [h1] at this
    exact this
  have eq : Emb q (eitherT p q) (p.size + 3 + 1) := by
    have := emb_of ((bOpen ++ p) ++ bMid) q bShut (by decide)
    rw [hX] at this
    exact this
  have k0 : pk (eitherT p q) 0 = 40 := by
    unfold eitherT
    rw [pk_left (by omega), pk_left (by omega), pk_left (by omega), pk_left (by omega)]
    rfl
  have kmid : ∀ i, i < 3 → pk (eitherT p q) (p.size + 1 + i) = pk bMid i := fun i hi => by
    unfold eitherT
    rw [pk_left (by omega), pk_left (by omega)]
    have := pk_right (bOpen ++ p) bMid i
    rw [hop] at this
    exact this
  have k2 : pk (eitherT p q) (p.size + 2) = 124 := by have := kmid 1 (by omega); rw [show p.size + 1 + 1 = p.size + 2 by omega] at this; rw [this]; rfl
  have k3 : pk (eitherT p q) (p.size + 3) = 40 := by have := kmid 2 (by omega); rw [show p.size + 1 + 2 = p.size + 3 by omega] at this; rw [this]; rfl
  have kend : pk (eitherT p q) (p.size + q.size + 5) = -1 := by rw [pk_none, eitherT_size]; omega
  -- the one
  have g1 := grp k0 ep hp [] 0
  rw [show 0 + p.size + 2 = p.size + 2 by omega] at g1
  have d1 : D (eitherT p q) 1 0 st0 (0 + rp.1, ((p.size + 2, false), shL [] rp.2.2)) := by
    refine D.branch (by unfold endS; simp only [st0, k0]; rfl) (D.piece g1 (D.repEnd (st_rep k2 (by omega)))) (D.andEnd ?_)
    unfold endS; simp only [k2]; rfl
  -- the other
  have g2 := grp k3 eq hq (shL [] rp.2.2) 0
  rw [show p.size + 3 + q.size + 2 = p.size + q.size + 5 by omega] at g2
  have d2 : D (eitherT p q) 1 0 ((p.size + 3, false), shL [] rp.2.2) ((shL [] rp.2.2).length + rq.1, ((p.size + q.size + 5, false), shL (shL [] rp.2.2) rq.2.2)) := by
    refine D.branch (by unfold endS; simp only [k3]; rfl) (D.piece g2 (D.repEnd (st_rep kend (by omega)))) (D.andEnd ?_)
    unfold endS; simp only [kend]; rfl
  have ht : takeS (eitherT p q) 124 (p.size + 2, false) = (true, (p.size + 3, false)) := by unfold takeS; rw [k2, if_pos rfl]
  have he : eitherR p q rp rq = joinS 5 (0 + rp.1) ((shL [] rp.2.2).length + rq.1) ((p.size + q.size + 5, false), shL (shL [] rp.2.2) rq.2.2) := by unfold eitherR; rw [eitherT_size]
  rw [he]
  refine D.pattern d1 (D.or (by show (takeS (eitherT p q) 124 (p.size + 2, false)).1 = true; rw [ht]) (by show D _ 1 0 ((takeS (eitherT p q) 124 (p.size + 2, false)).2, _) _; rw [ht]; exact d2) (D.orEnd ?_))
  show (takeS (eitherT p q) 124 (p.size + q.size + 5, false)).1 = false
  unfold takeS; rw [kend, if_neg (by omega)]

/-- What is known of a composed pattern: its size, and what it matches. -/
theorem either_facts {p q : ByteArray} {rp rq : Nat × PS} (hp : PatOk p rp) (hq : PatOk q rq) :
    Ev (eitherT p q) 0 0 st0 (eitherR p q rp rq) ∧ ¬ BadR (eitherT p q) (eitherR p q rp rq) ∧
    sizeAt (eitherR p q rp rq).2.2 (eitherR p q rp rq).1 = (if 61 < sizeAt rp.2.2 rp.1 + sizeAt rq.2.2 rq.1 then 61 else sizeAt rp.2.2 rp.1 + sizeAt rq.2.2 rq.1) ∧
    ∀ fold l i j, Mat (eitherR p q rp rq).2.2 fold l (eitherR p q rp rq).1 i j ↔ Mat rp.2.2 fold l rp.1 i j ∨ Mat rq.2.2 fold l rq.1 i j := by
  have op := hp.okay
  have oq := hq.okay
  have tp := op.top
  have tq := oq.top
  have e1 : shL [] rp.2.2 = [] ++ rp.2.2.map (shN 0) := rfl
  have s1 : sizeAt (shL (shL [] rp.2.2) rq.2.2) (0 + rp.1) = sizeAt rp.2.2 rp.1 := by
    show sizeAt (shL [] rp.2.2 ++ _) _ = _
    rw [sizeN_app (by simp [shL]; omega)]
    exact sh_sizeAt [] rp.2.2 rp.1
  have s2 := sh_sizeAt (shL [] rp.2.2) rq.2.2 rq.1
  have i1 : In rp.2.2 (eitherR p q rp rq).2.2 0 := by
    have := in_shL [] rp.2.2 (rq.2.2.map (shN (shL [] rp.2.2).length) ++ [capN { kind := 5, left := ((0 + rp.1 : Nat) : Int), right := (((shL [] rp.2.2).length + rq.1 : Nat) : Int), size := sizeAt (shL (shL [] rp.2.2) rq.2.2) (0 + rp.1) + sizeAt (shL (shL [] rp.2.2) rq.2.2) ((shL [] rp.2.2).length + rq.1) }])
    rw [← List.append_assoc] at this
    exact this
  have i2 : In rq.2.2 (eitherR p q rp rq).2.2 (shL [] rp.2.2).length := in_shL (shL [] rp.2.2) rq.2.2 _
  have hroot : (eitherR p q rp rq).2.2[(eitherR p q rp rq).1]? = some (capN { kind := 5, left := ((0 + rp.1 : Nat) : Int), right := (((shL [] rp.2.2).length + rq.1 : Nat) : Int), size := sizeAt (shL (shL [] rp.2.2) rq.2.2) (0 + rp.1) + sizeAt (shL (shL [] rp.2.2) rq.2.2) ((shL [] rp.2.2).length + rq.1) }) := by
    simp [eitherR, joinS, addS]
  refine ⟨(either_deriv hp hq).ev, ?_, ?_, fun fold l i j => ?_⟩
  · rintro (h | h)
    · exact nomatch (show false = true from h)
    · exact absurd (show (eitherT p q).size < (eitherT p q).size from h) (Nat.lt_irrefl _)
  · unfold sizeAt
    rw [hroot]
    simp only [Option.map_some, Option.getD_some, capN]
    rw [s1, s2]
    rfl
  · rw [Mat.alt hroot rfl rfl rfl]
    rw [Mat.emb op.ok i1 fold l (rp.1 + 1) rp.1 (by omega) (by omega), Mat.emb oq.ok i2 fold l (rq.1 + 1) rq.1 (by omega) (by omega)]

end Go.Proofs.Ytjhmkkhnnijigaa
