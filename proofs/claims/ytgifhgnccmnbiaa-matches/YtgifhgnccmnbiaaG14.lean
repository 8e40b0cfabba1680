/- The document's side: what a part matches, told part by part; when a part and a node match the same. No Go in it. -/
import Derived.Test.YtgifhgnccmnbiaaG05
import Derived.Test.YtgifhgnccmnbiaaG13
import Derived.Deep.RegionLaw
set_option linter.unusedVariables false
set_option linter.unusedSimpArgs false
namespace Go.Proofs.Ytgifhgnccmnbiaa
open Go.RowKit Go.IntWalk

abbrev Rel := Nat → Nat → Prop
def oneR (p : PN) (fold : Bool) (t : ByteArray) : Rel := fun i j => j = i + 1 ∧ ∃ h : i < t.size, inB p fold t[i].toNat = true
def thenR (n : Nat) (R S : Rel) : Rel := fun i j => ∃ p, p < n + 1 ∧ i ≤ p ∧ p ≤ j ∧ R i p ∧ S p j
def eithR (R S : Rel) : Rel := fun i j => i ≤ j ∧ (R i j ∨ S i j)
def seqR (n : Nat) (R : Nat → Rel) (l : List Nat) : Rel := l.foldl (fun S k => thenR n S (R k)) (fun i j => i = j)
def altR (R : Nat → Rel) (l : List Nat) : Rel := l.foldl (fun S k => eithR S (R k)) (fun _ _ => False)
def timesB (n : Nat) (R : Nat → Rel) (p : PN) : Rel :=
  match p.kids with
  | [] => fun _ _ => False
  | k :: _ => TimesR (R k) (n + 1) p.least.toNat p.most
def bodyR (fold : Bool) (t : ByteArray) (R : Nat → Rel) (p : PN) : Rel :=
  if p.kind = 1 then oneR p fold t
  else if p.kind = 2 then fun i j => i = 0 ∧ j = 0
  else if p.kind = 3 then fun i j => i = t.size ∧ j = t.size
  else if p.kind = 4 then seqR t.size R p.kids
  else if p.kind = 5 then altR R p.kids
  else timesB t.size R p
def MatF (ps : List PN) (fold : Bool) (t : ByteArray) : Nat → Nat → Rel
  | 0, _ => fun _ _ => False
  | f + 1, k => match ps[k]? with
    | none => fun _ _ => False
    | some p => bodyR fold t (MatF ps fold t f) p
def MatR (ps : List PN) (fold : Bool) (t : ByteArray) (k : Nat) : Rel := MatF ps fold t (k + 1) k

theorem foldR_same {α β : Type} {f g : α → β → α} : ∀ (l : List β) (a : α), (∀ x, x ∈ l → ∀ y, f y x = g y x) → l.foldl f a = l.foldl g a
  | [], _, _ => rfl
  | x :: l, a, h => by
    rw [List.foldl_cons, List.foldl_cons, h x (by simp)]
    exact foldR_same l _ (fun z hz y => h z (by simp [hz]) y)
theorem seqR_congr {n : Nat} {R R' : Nat → Rel} {l : List Nat} (h : ∀ k, k ∈ l → R k = R' k) : seqR n R l = seqR n R' l :=
  foldR_same l _ (fun k hk S => by rw [h k hk])
theorem altR_congr {R R' : Nat → Rel} {l : List Nat} (h : ∀ k, k ∈ l → R k = R' k) : altR R l = altR R' l :=
  foldR_same l _ (fun k hk S => by rw [h k hk])
theorem bodyR_congr {fold : Bool} {t : ByteArray} {R R' : Nat → Rel} {p : PN} (h : ∀ k, k ∈ p.kids → R k = R' k) : bodyR fold t R p = bodyR fold t R' p := by
  unfold bodyR
  rw [seqR_congr h, altR_congr h]
  have : timesB t.size R p = timesB t.size R' p := by
    unfold timesB
    cases hk : p.kids with
    | nil => rfl
    | cons k l => simp only []; rw [h k (by rw [hk]; simp)]
  rw [this]
theorem MatF_more {ps : List PN} {fold : Bool} {t : ByteArray} (hw : WfP ps) : ∀ (f g i : Nat), i < f → i < g → MatF ps fold t f i = MatF ps fold t g i
  | 0, _, _, h, _ => by omega
  | _ + 1, 0, _, _, h => by omega
  | f + 1, g + 1, i, h1, h2 => by
    rw [MatF, MatF]
    cases hp : ps[i]? with
    | none => rfl
    | some p =>
      simp only []
      exact bodyR_congr (fun k hk => by have := hw i p hp k hk; exact MatF_more hw f g k (by omega) (by omega))
theorem MatR_eq {ps : List PN} {fold : Bool} {t : ByteArray} (hw : WfP ps) {k : Nat} {p : PN} (hp : ps[k]? = some p) : MatR ps fold t k = bodyR fold t (MatR ps fold t) p := by
  show MatF ps fold t (k + 1) k = _
  rw [MatF, hp]
  simp only []
  refine bodyR_congr (fun j hj => ?_)
  have := hw k p hp j hj
  exact MatF_more hw k (j + 1) j this (Nat.lt_succ_self _)

theorem seqR_snoc {n : Nat} {R : Nat → Rel} {l : List Nat} {k : Nat} : seqR n R (l ++ [k]) = thenR n (seqR n R l) (R k) := by
  unfold seqR; rw [List.foldl_append]; rfl
theorem altR_snoc {R : Nat → Rel} {l : List Nat} {k : Nat} : altR R (l ++ [k]) = eithR (altR R l) (R k) := by
  unfold altR; rw [List.foldl_append]; rfl

section
variable {N : Nat} {M R : Rel}
theorem PowM.bd (hM : ∀ a b, M a b → a ≤ N ∧ b ≤ N ∧ a ≤ b) : ∀ {c i j : Nat}, PowM N M c i j → i ≤ N ∧ j ≤ N ∧ i ≤ j
  | 0, i, j, h => by simp only [PowM] at h; omega
  | c + 1, i, j, h => by
    simp only [PowM] at h
    obtain ⟨m, h1, h2⟩ := h
    have := PowM.bd hM h1
    have := hM _ _ h2
    omega
theorem PowM.add (hM : ∀ a b, M a b → a ≤ N ∧ b ≤ N ∧ a ≤ b) {a : Nat} : ∀ {b i j : Nat}, PowM N M (a + b) i j ↔ ∃ p, PowM N M a i p ∧ PowM N M b p j
  | 0, i, j => by
    constructor
    · intro h; exact ⟨j, h, rfl, (PowM.bd hM h).2.1⟩
    · rintro ⟨p, h1, rfl, _⟩; exact h1
  | b + 1, i, j => by
    show (∃ m, PowM N M (a + b) i m ∧ M m j) ↔ ∃ p, PowM N M a i p ∧ ∃ m, PowM N M b p m ∧ M m j
    constructor
    · rintro ⟨m, h1, h2⟩
      obtain ⟨p, h3, h4⟩ := (PowM.add hM).1 h1
      exact ⟨p, h3, m, h4, h2⟩
    · rintro ⟨p, h3, m, h4, h2⟩
      exact ⟨m, (PowM.add hM).2 ⟨p, h3, h4⟩, h2⟩
theorem PowM.cons (hM : ∀ a b, M a b → a ≤ N ∧ b ≤ N ∧ a ≤ b) {c i p j : Nat} (h1 : M i p) (h2 : PowM N M c p j) : PowM N M (c + 1) i j := by
  rw [Nat.add_comm]
  exact (PowM.add hM).2 ⟨p, ⟨i, ⟨rfl, (hM _ _ h1).1⟩, h1⟩, h2⟩

theorem pow_same (hM : ∀ a b, M a b → a ≤ N ∧ b ≤ N ∧ a ≤ b) (hR : ∀ a b, a ≤ N → b ≤ N → (R a b ↔ M a b)) : ∀ (c i j : Nat), i ≤ N → j ≤ N → (PowR R (N + 1) c i j ↔ PowM N M c i j)
  | 0, i, j, hi, hj => by simp only [PowR, PowM]; constructor; · intro h; exact ⟨h, hi⟩
                          · intro h; exact h.1
  | c + 1, i, j, hi, hj => by
    simp only [PowR, PowM]
    constructor
    · rintro ⟨p, h1, _, _, h2, h3⟩; exact ⟨p, (pow_same hM hR c i p hi (by omega)).1 h2, (hR p j (by omega) hj).1 h3⟩
    · rintro ⟨p, h2, h3⟩
      have b1 := PowM.bd hM h2
      have b2 := hM _ _ h3
      exact ⟨p, by omega, b1.2.2, b2.2.2, (pow_same hM hR c i p hi b1.2.1).2 h2, (hR p j b1.2.1 hj).2 h3⟩
theorem star_same (hM : ∀ a b, M a b → a ≤ N ∧ b ≤ N ∧ a ≤ b) (hR : ∀ a b, a ≤ N → b ≤ N → (R a b ↔ M a b)) {i j : Nat} (hi : i ≤ N) (hj : j ≤ N) : Star R (N + 1) i j ↔ ∃ c, PowM N M c i j := by
  constructor
  · rintro ⟨k, h⟩
    have : ∀ {k i j : Nat}, Hops R (N + 1) k i j → i ≤ N → ∃ c, PowM N M c i j := by
      intro k i j h
      induction h with
      | refl h => intro hi; exact ⟨0, rfl, hi⟩
      | @step k i m j h0 h1 h2 ih =>
        intro hi
        have := h2.bound
        obtain ⟨c, hc⟩ := ih (by omega)
        exact ⟨c + 1, PowM.cons hM ((hR i m hi (by omega)).1 h0) hc⟩
    exact this h hi
  · rintro ⟨c, h⟩
    have : ∀ (c : Nat) {j : Nat}, j ≤ N → PowM N M c i j → Star R (N + 1) i j := by
      intro c
      induction c with
      | zero => rintro j hj ⟨rfl, _⟩; exact ⟨0, Hops.refl (by omega)⟩
      | succ c ih =>
        rintro j hj ⟨m, h1, h2⟩
        have b1 := PowM.bd hM h1
        have b2 := hM _ _ h2
        have s1 := ih b1.2.1 h1
        by_cases hmj : m = j
        · rw [← hmj]; exact s1
        · exact s1.app ⟨1, Hops.step ((hR m j b1.2.1 hj).2 h2) (by omega) (Hops.refl (by omega))⟩
    exact this c hj h
theorem times_same (hM : ∀ a b, M a b → a ≤ N ∧ b ≤ N ∧ a ≤ b) (hR : ∀ a b, a ≤ N → b ≤ N → (R a b ↔ M a b)) {least most : Int} (h0 : 0 ≤ least) (hm : most = -1 ∨ least ≤ most) {i j : Nat} (hi : i ≤ N) (hj : j ≤ N) :
    TimesR R (N + 1) least.toNat most i j ↔ ∃ c : Nat, least ≤ (c : Int) ∧ (most = -1 ∨ (c : Int) ≤ most) ∧ PowM N M c i j := by
  unfold TimesR
  constructor
  · rintro (⟨h1, p, h2, h3, h4, h5, h6⟩ | ⟨h1, h2⟩)
    · obtain ⟨c, hc⟩ := (star_same hM hR (by omega) hj).1 h6
      exact ⟨least.toNat + c, by omega, Or.inl (by omega), (PowM.add hM).2 ⟨p, (pow_same hM hR _ i p hi (by omega)).1 h5, hc⟩⟩
    · rcases h2 with h2 | ⟨m, h2, h3, h4⟩
      · exact ⟨least.toNat, by omega, by omega, (pow_same hM hR _ i j hi hj).1 h2⟩
      · exact ⟨m, by omega, by omega, (pow_same hM hR _ i j hi hj).1 h4⟩
  · rintro ⟨c, h1, h2, h3⟩
    by_cases hneg : most < 0
    · left
      refine ⟨hneg, ?_⟩
      obtain ⟨d, rfl⟩ : ∃ d, c = least.toNat + d := ⟨c - least.toNat, by omega⟩
      obtain ⟨p, h4, h5⟩ := (PowM.add hM).1 h3
      have b1 := PowM.bd hM h4
      have b2 := PowM.bd hM h5
      exact ⟨p, by omega, b1.2.2, b2.2.2, (pow_same hM hR _ i p hi b1.2.1).2 h4, (star_same hM hR b1.2.1 hj).2 ⟨d, h5⟩⟩
    · right
      refine ⟨by omega, ?_⟩
      have h4 := (pow_same hM hR c i j hi hj).2 h3
      by_cases hc : c = least.toNat
      · left; rw [← hc]; exact h4
      · right; exact ⟨c, by omega, by omega, h4⟩
end

/-- A part that is in order, with all that it is made of. -/
inductive GoodT (ps : List PN) : Nat → Prop
  | leaf {j : Nat} {p : PN} : ps[j]? = some p → (p.kind = 1 ∨ p.kind = 2 ∨ p.kind = 3) → GoodT ps j
  | many {j : Nat} {p : PN} : ps[j]? = some p → (p.kind = 4 ∨ p.kind = 5) → (∀ k, k ∈ p.kids → GoodT ps k) → GoodT ps j
  | times {j k : Nat} {p : PN} : ps[j]? = some p → p.kind = 6 → p.kids = [k] → GoodT ps k → 0 ≤ p.least → p.least ≤ 9 → -1 ≤ p.most → p.most ≤ 9 → GoodT ps j
theorem at_more {α : Type} {l m : List α} {i : Nat} {x : α} (h : l[i]? = some x) : (l ++ m)[i]? = some x := by
  rw [List.getElem?_append_left (List.getElem?_eq_some_iff.1 h).1]; exact h
theorem GoodT.app {ps : List PN} {j : Nat} (h : GoodT ps j) (mp : List PN) : GoodT (ps ++ mp) j := by
  induction h with
  | leaf h1 h2 => exact GoodT.leaf (at_more h1) h2
  | many h1 h2 _ ih => exact GoodT.many (at_more h1) h2 ih
  | times h1 h2 h3 _ h4 h5 h6 h7 ih => exact GoodT.times (at_more h1) h2 h3 ih h4 h5 h6 h7

theorem at_new {α : Type} {l m : List α} {x : α} : (l ++ [x] ++ m)[l.length]? = some x := by
  rw [List.append_assoc, List.getElem?_append_right (Nat.le_refl _), Nat.sub_self]; rfl

/-- The part and the node match the same, in whatever longer lists they stand. -/
structure Same (ns : List AN) (i : Nat) (ps : List PN) (j : Nat) : Prop where
  iff : ∀ (mn : List AN) (mp : List PN), WfP (ps ++ mp) → ∀ (fold : Bool) (t : ByteArray) (a b : Nat), a ≤ t.size → b ≤ t.size → (MatR (ps ++ mp) fold t j a b ↔ Mat (ns ++ mn) fold t i a b)
  good : GoodT ps j
/-- Many of them, one behind the other (kind 4), or one of them (kind 5), and the node. -/
def listR (kind : Int) (n : Nat) (R : Nat → Rel) (l : List Nat) : Rel := if kind = 4 then seqR n R l else altR R l
structure SameL (kind : Int) (ns : List AN) (i : Nat) (ps : List PN) (l : List Nat) : Prop where
  iff : ∀ (mn : List AN) (mp : List PN), WfP (ps ++ mp) → ∀ (fold : Bool) (t : ByteArray) (a b : Nat), a ≤ t.size → b ≤ t.size → (listR kind t.size (MatR (ps ++ mp) fold t) l a b ↔ Mat (ns ++ mn) fold t i a b)
  good : ∀ k, k ∈ l → GoodT ps k

theorem Same.app {ns : List AN} {i : Nat} {ps : List PN} {j : Nat} (h : Same ns i ps j) (mn : List AN) (mp : List PN) : Same (ns ++ mn) i (ps ++ mp) j := ⟨fun mn2 mp2 hw fold t a b ha hb => by
  rw [List.append_assoc] at hw ⊢
  rw [List.append_assoc]
  exact h.iff _ _ hw fold t a b ha hb, h.good.app mp⟩
theorem SameL.app {kind : Int} {ns : List AN} {i : Nat} {ps : List PN} {l : List Nat} (h : SameL kind ns i ps l) (mn : List AN) (mp : List PN) : SameL kind (ns ++ mn) i (ps ++ mp) l := ⟨fun mn2 mp2 hw fold t a b ha hb => by
  rw [List.append_assoc] at hw ⊢
  rw [List.append_assoc]
  exact h.iff _ _ hw fold t a b ha hb, fun k hk => (h.good k hk).app mp⟩

/-- What a leaf and a part without kids have in common. -/
def LeafTie (n : AN) (x : PN) : Prop :=
  (n.kind = 1 ∧ x.kind = 1 ∧ ∀ (fold : Bool) (c : Nat), c < 256 → takesP n fold c = inB x fold c) ∨ (n.kind = 2 ∧ x.kind = 2) ∨ (n.kind = 3 ∧ x.kind = 3) ∨ (n.kind = 0 ∧ x.kind = 4 ∧ x.kids = [])
theorem Same.leaf {ns : List AN} {ps : List PN} {n : AN} {x : PN} (h : LeafTie n x) : Same (ns ++ [capN n]) ns.length (ps ++ [x]) ps.length := by
  refine ⟨?_, ?good⟩
  case good =>
    have hx0 : (ps ++ [x])[ps.length]? = some x := by have := at_new (l := ps) (x := x) (m := []); rwa [List.append_nil] at this
    rcases h with ⟨_, h, _⟩ | ⟨_, h⟩ | ⟨_, h⟩ | ⟨_, h, h2⟩
    · exact GoodT.leaf hx0 (Or.inl h)
    · exact GoodT.leaf hx0 (Or.inr (Or.inl h))
    · exact GoodT.leaf hx0 (Or.inr (Or.inr h))
    · exact GoodT.many hx0 (Or.inl h) (fun k hk => by rw [h2] at hk; cases hk)
  intro mn mp hw fold t a b ha hb
  have hn : (ns ++ [capN n] ++ mn)[ns.length]? = some (capN n) := at_new
  have hx : (ps ++ [x] ++ mp)[ps.length]? = some x := at_new
  have hkind : (capN n).kind = n.kind := rfl
  rw [MatR_eq hw hx]
  unfold bodyR
  rcases h with ⟨h1, h2, h3⟩ | ⟨h1, h2⟩ | ⟨h1, h2⟩ | ⟨h1, h2, h3⟩
  · rw [if_pos h2, Mat.one hn (by rw [hkind]; omega)]
    unfold Go1 oneR
    constructor
    · rintro ⟨h4, h5, h6⟩
      exact ⟨_, hn, Or.inl ⟨h1, h4, h5, (h3 fold _ t[a].toNat_lt).trans h6⟩⟩
    · rintro ⟨n', h4, h5⟩
      rw [hn] at h4
      simp only [Option.some.injEq] at h4
      subst h4
      rcases h5 with ⟨_, h5, h6, h7⟩ | ⟨h5, _⟩ | ⟨h5, _⟩
      · exact ⟨h5, h6, (h3 fold _ t[a].toNat_lt).symm.trans h7⟩
      · rw [hkind] at h5; omega
      · rw [hkind] at h5; omega
  · rw [if_neg (by omega), if_pos h2, Mat.one hn (by rw [hkind]; omega)]
    unfold Go1
    constructor
    · rintro h4; exact ⟨_, hn, Or.inr (Or.inl ⟨h1, h4⟩)⟩
    · rintro ⟨n', h4, h5⟩
      rw [hn] at h4
      simp only [Option.some.injEq] at h4
      subst h4
      rcases h5 with ⟨h5, _⟩ | ⟨_, h5⟩ | ⟨h5, _⟩
      · rw [hkind] at h5; omega
      · exact h5
      · rw [hkind] at h5; omega
  · rw [if_neg (by omega), if_neg (by omega), if_pos h2, Mat.one hn (by rw [hkind]; omega)]
    unfold Go1
    constructor
    · rintro h4; exact ⟨_, hn, Or.inr (Or.inr ⟨h1, h4⟩)⟩
    · rintro ⟨n', h4, h5⟩
      rw [hn] at h4
      simp only [Option.some.injEq] at h4
      subst h4
      rcases h5 with ⟨h5, _⟩ | ⟨h5, _⟩ | ⟨_, h5⟩
      · rw [hkind] at h5; omega
      · rw [hkind] at h5; omega
      · exact h5
  · rw [if_neg (by omega), if_neg (by omega), if_neg (by omega), if_pos h2, h3, Mat.zero hn h1]
    show a = b ↔ _
    exact ⟨fun h => ⟨h, ha⟩, fun h => h.1⟩

/-- A repeat. -/
theorem Same.times {ns : List AN} {ps : List PN} {i j : Nat} (h : Same ns i ps j) {n : AN} {x : PN} (hn : n.kind = 6) (hl : n.left = (i : Int)) (hx : x.kind = 6) (hk : x.kids = [j]) (e1 : n.least = x.least) (e2 : n.most = x.most) (h0 : 0 ≤ x.least) (h9 : x.least ≤ 9) (m0 : -1 ≤ x.most) (m9 : x.most ≤ 9) (hm : x.most = -1 ∨ x.least ≤ x.most) :
    Same (ns ++ [capN n]) ns.length (ps ++ [x]) ps.length := by
  refine ⟨?_, ?good⟩
  case good =>
    have hx0 : (ps ++ [x])[ps.length]? = some x := by have := at_new (l := ps) (x := x) (m := []); rwa [List.append_nil] at this
    exact GoodT.times hx0 hx hk (h.good.app _) h0 h9 m0 m9
  intro mn mp hw fold t a b ha hb
  have hn2 : (ns ++ [capN n] ++ mn)[ns.length]? = some (capN n) := at_new
  have hx2 : (ps ++ [x] ++ mp)[ps.length]? = some x := at_new
  rw [MatR_eq hw hx2, Mat.many hn2 hn hl]
  unfold bodyR
  rw [if_neg (by omega), if_neg (by omega), if_neg (by omega), if_neg (by omega), if_neg (by omega)]
  unfold timesB
  rw [hk]
  simp only []
  have hh := (h.app [capN n] [x]).iff mn mp hw fold t
  have := times_same (N := t.size) (M := Mat (ns ++ [capN n] ++ mn) fold t i) (R := MatR (ps ++ [x] ++ mp) fold t j) (fun a b h => h.le) (fun a b ha hb => hh a b ha hb) h0 hm ha hb
  rw [this]
  show _ ↔ ∃ c : Nat, n.least ≤ (c : Int) ∧ (n.most = -1 ∨ (c : Int) ≤ n.most) ∧ _
  rw [e1, e2]

/-- Lists of one, of one more. -/
theorem SameL.one {kind : Int} {ns : List AN} {i : Nat} {ps : List PN} {j : Nat} (h : Same ns i ps j) : SameL kind ns i ps [j] := by
  refine ⟨?_, fun k hk => by simp at hk; subst hk; exact h.good⟩
  intro mn mp hw fold t a b ha hb
  have hh := h.iff mn mp hw fold t a b ha hb
  unfold listR
  split
  · show thenR t.size (fun i j => i = j) (MatR (ps ++ mp) fold t j) a b ↔ _
    unfold thenR
    constructor
    · rintro ⟨p, h1, _, _, rfl, h2⟩; exact hh.1 h2
    · intro h1
      exact ⟨a, by omega, Nat.le_refl _, h1.le.2.2, rfl, hh.2 h1⟩
  · show eithR (fun _ _ => False) (MatR (ps ++ mp) fold t j) a b ↔ _
    unfold eithR
    constructor
    · rintro ⟨_, h1 | h1⟩
      · exact h1.elim
      · exact hh.1 h1
    · intro h1; exact ⟨h1.le.2.2, Or.inr (hh.2 h1)⟩
theorem SameL.next {kind : Int} (hkd : kind = 4 ∨ kind = 5) {ns : List AN} {i : Nat} {ps : List PN} {l : List Nat} {r : Nat} {j : Nat} (h : SameL kind ns i ps l) (h2 : Same ns r ps j) {n : AN} (hn : n.kind = kind) (hl : n.left = (i : Int)) (hr : n.right = (r : Int)) :
    SameL kind (ns ++ [capN n]) ns.length ps (l ++ [j]) := by
  refine ⟨?_, fun k hk => by
    rcases List.mem_append.1 hk with hk | hk
    · exact h.good k hk
    · simp at hk; subst hk; exact h2.good⟩
  intro mn mp hw fold t a b ha hb
  have hn2 : (ns ++ [capN n] ++ mn)[ns.length]? = some (capN n) := at_new
  have x1 := fun a b ha hb => h.iff ([capN n] ++ mn) mp hw fold t a b ha hb
  have x2 := fun a b ha hb => h2.iff ([capN n] ++ mn) mp hw fold t a b ha hb
  rw [← List.append_assoc] at x1 x2
  unfold listR at x1 ⊢
  rcases hkd with rfl | rfl
  · rw [if_pos rfl] at x1 ⊢
    rw [seqR_snoc, Mat.two hn2 hn hl hr]
    unfold thenR
    constructor
    · rintro ⟨p, h1, _, _, h3, h4⟩; exact ⟨p, (x1 a p ha (by omega)).1 h3, (x2 p b (by omega) hb).1 h4⟩
    · rintro ⟨p, h3, h4⟩
      have b1 := h3.le
      have b2 := h4.le
      exact ⟨p, by omega, b1.2.2, b2.2.2, (x1 a p ha b1.2.1).2 h3, (x2 p b b1.2.1 hb).2 h4⟩
  · rw [if_neg (by decide)] at x1 ⊢
    rw [altR_snoc, Mat.alt hn2 hn hl hr]
    unfold eithR
    constructor
    · rintro ⟨_, h1 | h1⟩
      · exact Or.inl ((x1 a b ha hb).1 h1)
      · exact Or.inr ((x2 a b ha hb).1 h1)
    · rintro (h1 | h1)
      · exact ⟨h1.le.2.2, Or.inl ((x1 a b ha hb).2 h1)⟩
      · exact ⟨h1.le.2.2, Or.inr ((x2 a b ha hb).2 h1)⟩
theorem SameL.fin {kind : Int} (hkd : kind = 4 ∨ kind = 5) {ns : List AN} {i : Nat} {ps : List PN} {l : List Nat} (h : SameL kind ns i ps l) {x : PN} (hx : x.kind = kind) (hk : x.kids = l) : Same ns i (ps ++ [x]) ps.length := by
  refine ⟨?_, ?good⟩
  case good =>
    have hx0 : (ps ++ [x])[ps.length]? = some x := by have := at_new (l := ps) (x := x) (m := []); rwa [List.append_nil] at this
    exact GoodT.many hx0 (by rw [hx]; exact hkd) (fun k hkk => by rw [hk] at hkk; exact (h.good k hkk).app _)
  intro mn mp hw fold t a b ha hb
  have hx2 : (ps ++ [x] ++ mp)[ps.length]? = some x := at_new
  rw [MatR_eq hw hx2]
  have x1 := h.iff mn ([x] ++ mp) (by rw [← List.append_assoc]; exact hw) fold t a b ha hb
  rw [← List.append_assoc] at x1
  unfold listR at x1
  unfold bodyR
  rcases hkd with rfl | rfl
  · rw [if_pos rfl] at x1
    rw [if_neg (by omega), if_neg (by omega), if_neg (by omega), if_pos hx, hk]
    exact x1
  · rw [if_neg (by decide)] at x1
    rw [if_neg (by omega), if_neg (by omega), if_neg (by omega), if_neg (by omega), if_pos hx, hk]
    exact x1

end Go.Proofs.Ytgifhgnccmnbiaa

set_option linter.unusedVariables false
set_option linter.unusedSimpArgs false
namespace Go.Proofs.Ytgifhgnccmnbiaa
open Go.RowKit Go.IntWalk

set_option maxHeartbeats 4000000 in
set_option maxRecDepth 100000 in
theorem matched_one (w : World) (F : Nat → Prop) (adrs : List Nat) (p : PN) (a : Nat) (iv kv : IV) (h : PartOk w F adrs p a iv kv) (hF : ∀ k, F k → k < w.heap.size) (hk : p.kind = 1) (fold : Bool) (t : ByteArray) (ht : t.size ≤ 1000) :
    TabCall 71 #[.pointer (some ⟨a, 0, none⟩), .bool fold, .string t] t.size w (oneR p fold t) := by
  have c0 : w.cell? ⟨a, 0, none⟩ = some (.int .i64 1) := by rw [← hk]; exact h.blk.cell 0
  have hnone := none_of t.size (by omega) w
  unfold TabCall at hnone
  unfold TabCall
  go_enter Try.func71, Try.ntmps71
  go_wp2_with fail
  refine hnone.mono ?_
  rintro e w1 ⟨v, rfl, ⟨⟨rows, M, hlen, htab, hM⟩⟩, k1⟩
  clear hnone c0
  obtain ⟨k, cap, rfl, _, _⟩ := htab.head (by omega)
  rw [hlen] at htab ⊢
  have hlenH : Hid (_ = _) := hlen
  clear hlen
  go_wp2_with fail
  go_loopw [9] (fun iv wr => ∃ q : Nat, iv = .int .i64 (q : Int) ∧ q ≤ t.size ∧ (∃ M, Tab wr w.heap.size (.slice (some ⟨k, 0, none⟩) (t.size + 1) cap) (t.size + 1) rows M ∧ ∀ i j, i < t.size + 1 → j < t.size + 1 → (M i j = true ↔ i < q ∧ oneR p fold t i j)) ∧ Kept [] w wr) (fun iv _ => ((t.size : Int) - intOf iv).toNat)
  case atStart => exact ⟨0, rfl, Nat.zero_le _, ⟨M, htab, fun i j hi hj => by rw [hM i j hi hj]; simp⟩, k1⟩
  case round =>
    obtain ⟨q, rfl, hq, ⟨M1, htab1, hM1⟩, hkw⟩ := hrel
    clear htab hM k1
    have hM1H : Hid (∀ i j, _) := hM1
    clear hM1
    by_cases hlt : (q : Int) < (t.size : Int)
    · have hqt : q < t.size := by omega
      have hp1 : PartOk wr F adrs p a iv kv := h.frame (fun k hk => hkw.block k (hF k hk) (by simp))
      have hin : Hid (Calls _ _ _ _ _) := in_any wr.drew F adrs p a iv kv (hp1.frame (w' := wr.drew) (fun _ _ => rfl)) (by omega) fold t[q].toNat t[q].toNat_lt
      obtain ⟨g, hg⟩ : ∃ g, rows[q]? = some g := ⟨_, List.getElem?_eq_getElem (by rw [hlenH.out]; omega)⟩
      obtain ⟨k2, cap2, he, _, hcells⟩ := htab1.head (by rw [hlenH.out]; omega)
      simp only [Value.slice.injEq, Option.some.injEq, Addr.mk.injEq] at he
      obtain ⟨⟨rfl, _⟩, hl5, hl6⟩ := he
      clear hl5
      subst hl6
      have d1 := hcells q g hg
      unfold rowV at d1
      have d2 := htab1.cell hg (j := q + 1) (by omega)
      have d3 := htab1.frozen hg (q + 1)
      have hgb := htab1.base g (List.mem_iff_getElem?.2 ⟨q, hg⟩)
      have ht2 : Hid (Tab _ _ _ _ _ _) := htab1.set (M' := fun i j => if i = q ∧ j = q + 1 then inB p fold t[q].toNat else M1 i j) hg (q + 1) (inB p fold t[q].toNat) (fun _ _ _ _ => rfl)
      have hk2 : Hid (Kept [] w (wr.setCell ⟨g, q + 1, none⟩ (.bool (inB p fold t[q].toNat)))) := hkw.setCell (Or.inr hgb) _
      have hM2 : Hid (∀ i j, i < t.size + 1 → j < t.size + 1 → ((if i = q ∧ j = q + 1 then inB p fold t[q].toNat else M1 i j) = true ↔ i < q + 1 ∧ oneR p fold t i j)) := fun i j hi hj => by
        by_cases hij : i = q ∧ j = q + 1
        · rw [if_pos hij]
          obtain ⟨rfl, rfl⟩ := hij
          exact ⟨fun hx => ⟨by omega, rfl, hqt, hx⟩, fun hx => hx.2.2.2⟩
        · rw [if_neg hij, hM1H.out i j hi hj]
          constructor
          · rintro ⟨h1, h2⟩; exact ⟨by omega, h2⟩
          · rintro ⟨h1, h2⟩
            refine ⟨?_, h2⟩
            have : i ≠ q := fun hc => hij ⟨hc, by rw [h2.1, hc]⟩
            omega
      have l1 : (q : Int) < (t.size : Int) + 1 := by omega
      have e1 : IntKind.i64.wrap ((q : Int) + 1) = (q : Int) + 1 := by rw [IntKind.wrap_i64]; omega
      have e3 : IntKind.i64.wrap (t[q].toNat : Int) = (t[q].toNat : Int) := by have := t[q].toNat_lt; rw [IntKind.wrap_i64]; omega
      have l1 : (q : Int) < (t.size : Int) + 1 := by omega
      have l2 : (0 : Int) ≤ (q : Int) + 1 := by omega
      have l3 : (q : Int) + 1 < ((t.size + 1 : Nat) : Int) := by omega
      have l4 : (q : Int) + 1 < (t.size : Int) + 1 := by omega
      clear hg hcells htab1 hp1 hkw h
      generalize inB p fold t[q].toNat = Y at *
      go_wp2_with fail
      go_region_law (go_simp; go_at_call 99; refine hin.out.mono ?_; rintro _ _ ⟨rfl, rfl⟩)
      all_goals
        go_wp2
        go_roundw
        case rel => exact ⟨q + 1, by go_num, by omega, ⟨_, ht2.out.drew, hM2.out⟩, hk2.out.drew⟩
        case measure =>
          show ((t.size : Int) - ((q : Int) + 1)).toNat < ((t.size : Int) - (q : Int)).toNat
          omega
    · have hqe : q = t.size := by omega
      have hfin : Hid (TabOf wr w.heap.size (.slice (some ⟨k, 0, none⟩) (t.size + 1) cap) t.size (oneR p fold t)) := ⟨rows, M1, hlenH.out, htab1, fun i j hi hj => (hM1H.out i j hi hj).trans ⟨fun hx => hx.2, fun hx => ⟨by obtain ⟨_, h2, _⟩ := hx; omega, hx⟩⟩⟩
      have hkk : Hid (Kept _ _ _) := hkw
      clear htab1 hkw h
      go_wp2
      go_ret
      exact ⟨_, rfl, hfin.out, hkk.out⟩

end Go.Proofs.Ytgifhgnccmnbiaa

set_option linter.unusedVariables false
set_option linter.unusedSimpArgs false
namespace Go.Proofs.Ytgifhgnccmnbiaa
open Go.RowKit Go.IntWalk

/-- The parts in memory. -/
structure PMs (w : World) (ps : List PN) (adrs : List Nat) (F : Nat → Prop) : Prop where
  part : ∀ (i : Nat) (p : PN), ps[i]? = some p → (∀ k, k ∈ p.kids → k < i) ∧ ∃ iv kv, PartOk w F adrs p (adrs.getD i 0) iv kv
  old : ∀ k, F k → k < w.heap.size
theorem RM.pms {w : World} {b : Nat} {t : ByteArray} {s : RS} {ps : List PN} {adrs : List Nat} {F : Nat → Prop} (h : RM w b t s ps adrs F) : PMs w ps adrs F := ⟨h.part, fun k hk => (h.old k hk).1⟩
theorem PMs.kept {w w' : World} {ps : List PN} {adrs : List Nat} {F : Nat → Prop} (h : PMs w ps adrs F) (k : Kept [] w w') : PMs w' ps adrs F :=
  ⟨fun i p hp => ⟨(h.part i p hp).1, by obtain ⟨iv, kv, hk⟩ := (h.part i p hp).2; exact ⟨iv, kv, hk.frame (fun j hj => k.block j (h.old j hj) (by simp))⟩⟩, fun j hj => Nat.lt_of_lt_of_le (h.old j hj) k.size⟩
theorem PMs.wf {w : World} {ps : List PN} {adrs : List Nat} {F : Nat → Prop} (h : PMs w ps adrs F) : WfP ps := fun i p hp => (h.part i p hp).1

/-- The kids of a part, one by one. -/
theorem PartOk.kid {w : World} {F : Nat → Prop} {adrs : List Nat} {p : PN} {a : Nat} {iv kv : IV} (h : PartOk w F adrs p a iv kv) :
    kv.2.1 = p.kids.length ∧ ∀ j, j < p.kids.length → ∃ g, kv.1 = some ⟨g, 0, none⟩ ∧ w.cell? ⟨g, j, none⟩ = some (ptrTo adrs (p.kids.getD j 0)) ∧ j < kv.2.2 := by
  obtain ⟨ko, kl, kc⟩ := kv
  have hlen : kl = p.kids.length := by
    rcases h.kids.2 with ⟨h1, h2⟩ | ⟨g, cap, cu, h1, _⟩
    · simp [ivV] at h1; rw [h1.2.1, h2]
    · simp [ivV] at h1; exact h1.2.1
  refine ⟨hlen, fun j hj => ?_⟩
  rcases h.kids.2 with ⟨h1, h2⟩ | ⟨g, cap, cu, h1, h2, h3, h4, _⟩
  · omega
  · simp [ivV] at h1
    have hc := h.kids.cells (g := g) (by simp [ivV, h1.1, Value.ownBlock]) j (ptrTo adrs (p.kids.getD j 0)) (by simp [List.getD, hj])
    refine ⟨g, h1.1, ?_, by have := h1.2.2; show j < kc; omega⟩
    rwa [show (⟨g, 0, none⟩ : Addr).add j = ⟨g, j, none⟩ by unfold Addr.add; split <;> simp_all] at hc

def MatchC (ps : List PN) (adrs : List Nat) (F : Nat → Prop) (fold : Bool) (t : ByteArray) (i : Nat) : Prop :=
  ∀ w, PMs w ps adrs F → TabCall 71 #[ptrTo adrs i, .bool fold, .string t] t.size w (MatR ps fold t i)

theorem take_next {l : List Nat} {c : Nat} (h : c < l.length) : l.take (c + 1) = l.take c ++ [l.getD c 0] := by
  rw [List.take_succ_eq_append_getElem h]; simp [List.getD, h]

set_option maxHeartbeats 4000000 in
set_option maxRecDepth 100000 in
theorem matched_row (ps : List PN) (adrs : List Nat) (F : Nat → Prop) (fold : Bool) (t : ByteArray) (ht : t.size ≤ 1000) (i : Nat) (p : PN) (hp : ps[i]? = some p) (hk : p.kind = 4)
    (ih : ∀ k, k ∈ p.kids → MatchC ps adrs F fold t k) : MatchC ps adrs F fold t i := by
  intro w hm
  have hR : MatR ps fold t i = seqR t.size (MatR ps fold t) p.kids := by
    rw [MatR_eq hm.wf hp]; unfold bodyR; rw [if_neg (by omega), if_neg (by omega), if_neg (by omega), if_pos hk]
  rw [hR]
  clear hR
  obtain ⟨_, iv, kv, po⟩ := hm.part i p hp
  have hold := hm.old
  have hmH : Hid (PMs _ _ _ _) := hm
  have ihH : Hid (∀ k, _) := ih
  have hl : p.kids.length ≤ maxLen := by
    rcases po.kids.2 with ⟨_, h2⟩ | ⟨g, cap, cu, _, _, _, h4, h5, _⟩
    · omega
    · omega
  unfold maxLen at hl
  clear ih hm hp
  obtain ⟨a, ha⟩ : ∃ a, a = adrs.getD i 0 := ⟨_, rfl⟩
  rw [← ha] at po
  have e : ptrTo adrs i = .pointer (some ⟨a, 0, none⟩) := by rw [ha]; rfl
  rw [e]
  clear e ha
  have c0 : w.cell? ⟨a, 0, none⟩ = some (.int .i64 4) := by rw [← hk]; exact po.blk.cell 0
  have hsame := same_of t.size (by omega) w
  obtain ⟨hlen, hcell⟩ := po.kid
  have c3 : w.cell? ⟨a, 3, none⟩ = some (.slice kv.1 kv.2.1 kv.2.2) := po.blk.cell 3
  have hblk : Hid (∀ w', Kept [] w w' → w'.cell? ⟨a, 3, none⟩ = some (.slice kv.1 kv.2.1 kv.2.2) ∧ ∀ j, j < p.kids.length → ∃ g, kv.1 = some ⟨g, 0, none⟩ ∧ w'.cell? ⟨g, j, none⟩ = some (ptrTo adrs (p.kids.getD j 0)) ∧ j < kv.2.2) := fun w' k => by
    have po' := po.frame (w' := w') (fun j hj => k.block j (hold j hj) (by simp))
    exact ⟨po'.blk.cell 3, po'.kid.2⟩
  clear po hold hcell c3
  obtain ⟨ko, kl, kc⟩ := kv
  simp only [] at hlen hblk
  subst hlen
  unfold TabCall at hsame
  unfold TabCall
  go_enter Try.func71, Try.ntmps71
  go_wp2_with fail
  refine hsame.mono ?_
  rintro e w1 ⟨v, rfl, t1, k1⟩
  clear hsame c0
  go_wp2_with fail
  go_loopw [12, 13] (fun tv iv wr => ∃ c : Nat, c ≤ p.kids.length ∧ iv = .int .i64 (c : Int) ∧ TabOf wr w.heap.size tv t.size (seqR t.size (MatR ps fold t) (p.kids.take c)) ∧ Kept [] w wr) (fun _ iv _ => p.kids.length - (intOf iv).toNat)
  case atStart => exact ⟨0, Nat.zero_le _, rfl, t1, k1⟩
  case round =>
    obtain ⟨c, hc, rfl, ht1, hkw⟩ := hrel
    clear t1 k1
    obtain ⟨c3, hcells⟩ := hblk.out _ hkw
    by_cases hlt : c < p.kids.length
    · obtain ⟨g, rfl, hcj, hck⟩ := hcells c hlt
      have hmem : p.kids.getD c 0 ∈ p.kids := by simp [List.getD, hlt]
      have hnext : Hid (seqR t.size (MatR ps fold t) (p.kids.take (c + 1)) = thenR t.size (seqR t.size (MatR ps fold t) (p.kids.take c)) (MatR ps fold t (p.kids.getD c 0))) := by
        show _ = _
        rw [take_next hlt, seqR_snoc]
      generalize p.kids.getD c 0 = kk at *
      have ihc : Hid (TabCall _ _ _ _ _) := ihH.out kk hmem _ (hmH.out.kept hkw)
      obtain ⟨y, hy⟩ : ∃ y, ptrTo adrs kk = .pointer (some ⟨y, 0, none⟩) := ⟨_, rfl⟩
      rw [hy] at hcj ihc
      clear hy hcells hmem
      go_wp2_with fail
      refine Calls.mono ihc.out ?_
      rintro e w2 ⟨v2, rfl, t2, k2⟩
      have hth := then_of t.size (by omega) w2 (ht1.kept (S := []) k2) t2
      unfold TabCall at hth
      have k2 := hkw.trans k2
      clear ihc t2 ht1
      go_wp2_with fail
      refine hth.mono ?_
      rintro e w3 ⟨v3, rfl, t3, k3⟩
      have t3 : Hid (TabOf _ _ _ _ _) := t3.mono k2.size
      have k3 : Hid (Kept _ _ _) := k2.trans k3
      clear hth k2 hkw c3 hcj
      go_wp2
      refine ⟨⟨c + 1, by omega, by go_num, by rw [hnext.out]; exact t3.out, k3.out⟩, by simp [intOf]; omega⟩
    · have hc2 : c = p.kids.length := by omega
      subst hc2
      rw [List.take_of_length_le (Nat.le_refl _)] at ht1
      have t3 : Hid (TabOf _ _ _ _ _) := ht1
      have k3 : Hid (Kept _ _ _) := hkw
      clear ht1 hkw hcells
      go_wp2
      go_ret
      exact ⟨_, rfl, t3.out, k3.out⟩

set_option maxHeartbeats 4000000 in
set_option maxRecDepth 100000 in
theorem matched_choice (ps : List PN) (adrs : List Nat) (F : Nat → Prop) (fold : Bool) (t : ByteArray) (ht : t.size ≤ 1000) (i : Nat) (p : PN) (hp : ps[i]? = some p) (hk : p.kind = 5)
    (ih : ∀ k, k ∈ p.kids → MatchC ps adrs F fold t k) : MatchC ps adrs F fold t i := by
  intro w hm
  have hR : MatR ps fold t i = altR (MatR ps fold t) p.kids := by
    rw [MatR_eq hm.wf hp]; unfold bodyR; rw [if_neg (by omega), if_neg (by omega), if_neg (by omega), if_neg (by omega), if_pos hk]
  rw [hR]
  clear hR
  obtain ⟨_, iv, kv, po⟩ := hm.part i p hp
  have hold := hm.old
  have hmH : Hid (PMs _ _ _ _) := hm
  have ihH : Hid (∀ k, _) := ih
  have hl : p.kids.length ≤ maxLen := by
    rcases po.kids.2 with ⟨_, h2⟩ | ⟨g, cap, cu, _, _, _, h4, h5, _⟩
    · omega
    · omega
  unfold maxLen at hl
  clear ih hm hp
  obtain ⟨a, ha⟩ : ∃ a, a = adrs.getD i 0 := ⟨_, rfl⟩
  rw [← ha] at po
  have e : ptrTo adrs i = .pointer (some ⟨a, 0, none⟩) := by rw [ha]; rfl
  rw [e]
  clear e ha
  have c0 : w.cell? ⟨a, 0, none⟩ = some (.int .i64 5) := by rw [← hk]; exact po.blk.cell 0
  have hsame := none_of t.size (by omega) w
  obtain ⟨hlen, hcell⟩ := po.kid
  have c3 : w.cell? ⟨a, 3, none⟩ = some (.slice kv.1 kv.2.1 kv.2.2) := po.blk.cell 3
  have hblk : Hid (∀ w', Kept [] w w' → w'.cell? ⟨a, 3, none⟩ = some (.slice kv.1 kv.2.1 kv.2.2) ∧ ∀ j, j < p.kids.length → ∃ g, kv.1 = some ⟨g, 0, none⟩ ∧ w'.cell? ⟨g, j, none⟩ = some (ptrTo adrs (p.kids.getD j 0)) ∧ j < kv.2.2) := fun w' k => by
    have po' := po.frame (w' := w') (fun j hj => k.block j (hold j hj) (by simp))
    exact ⟨po'.blk.cell 3, po'.kid.2⟩
  clear po hold hcell c3
  obtain ⟨ko, kl, kc⟩ := kv
  simp only [] at hlen hblk
  subst hlen
  unfold TabCall at hsame
  unfold TabCall
  go_enter Try.func71, Try.ntmps71
  go_wp2_with fail
  refine hsame.mono ?_
  rintro e w1 ⟨v, rfl, t1, k1⟩
  clear hsame c0
  go_wp2_with fail
  go_loopw [15, 16] (fun tv iv wr => ∃ c : Nat, c ≤ p.kids.length ∧ iv = .int .i64 (c : Int) ∧ TabOf wr w.heap.size tv t.size (altR (MatR ps fold t) (p.kids.take c)) ∧ Kept [] w wr) (fun _ iv _ => p.kids.length - (intOf iv).toNat)
  case atStart => exact ⟨0, Nat.zero_le _, rfl, t1, k1⟩
  case round =>
    obtain ⟨c, hc, rfl, ht1, hkw⟩ := hrel
    clear t1 k1
    obtain ⟨c3, hcells⟩ := hblk.out _ hkw
    by_cases hlt : c < p.kids.length
    · obtain ⟨g, rfl, hcj, hck⟩ := hcells c hlt
      have hmem : p.kids.getD c 0 ∈ p.kids := by simp [List.getD, hlt]
      have hnext : Hid (altR (MatR ps fold t) (p.kids.take (c + 1)) = eithR (altR (MatR ps fold t) (p.kids.take c)) (MatR ps fold t (p.kids.getD c 0))) := by
        show _ = _
        rw [take_next hlt, altR_snoc]
      generalize p.kids.getD c 0 = kk at *
      have ihc : Hid (TabCall _ _ _ _ _) := ihH.out kk hmem _ (hmH.out.kept hkw)
      obtain ⟨y, hy⟩ : ∃ y, ptrTo adrs kk = .pointer (some ⟨y, 0, none⟩) := ⟨_, rfl⟩
      rw [hy] at hcj ihc
      clear hy hcells hmem
      go_wp2_with fail
      refine Calls.mono ihc.out ?_
      rintro e w2 ⟨v2, rfl, t2, k2⟩
      have hth := either_of t.size (by omega) w2 (ht1.kept (S := []) k2) t2
      unfold TabCall at hth
      have k2 := hkw.trans k2
      clear ihc t2 ht1
      go_wp2_with fail
      refine hth.mono ?_
      rintro e w3 ⟨v3, rfl, t3, k3⟩
      have t3 : Hid (TabOf _ _ _ _ _) := t3.mono k2.size
      have k3 : Hid (Kept _ _ _) := k2.trans k3
      clear hth k2 hkw c3 hcj
      go_wp2
      refine ⟨⟨c + 1, by omega, by go_num, by rw [hnext.out]; exact t3.out, k3.out⟩, by simp [intOf]; omega⟩
    · have hc2 : c = p.kids.length := by omega
      subst hc2
      rw [List.take_of_length_le (Nat.le_refl _)] at ht1
      have t3 : Hid (TabOf _ _ _ _ _) := ht1
      have k3 : Hid (Kept _ _ _) := hkw
      clear ht1 hkw hcells
      go_wp2
      go_ret
      exact ⟨_, rfl, t3.out, k3.out⟩

set_option maxHeartbeats 4000000 in
set_option maxRecDepth 100000 in
theorem matched_times (ps : List PN) (adrs : List Nat) (F : Nat → Prop) (fold : Bool) (t : ByteArray) (ht : t.size ≤ 1000) (i : Nat) (p : PN) (hp : ps[i]? = some p) (hk : p.kind = 6) (kk : Nat) (hkk : p.kids = [kk])
    (h0 : 0 ≤ p.least) (h9 : p.least ≤ 9) (m0 : -1 ≤ p.most) (m9 : p.most ≤ 9) (ih : MatchC ps adrs F fold t kk) : MatchC ps adrs F fold t i := by
  intro w hm
  obtain ⟨le, hle⟩ : ∃ le : Nat, p.least = (le : Int) := ⟨p.least.toNat, by omega⟩
  have hR : MatR ps fold t i = TimesR (MatR ps fold t kk) (t.size + 1) le p.most := by
    rw [MatR_eq hm.wf hp]; unfold bodyR; rw [if_neg (by omega), if_neg (by omega), if_neg (by omega), if_neg (by omega), if_neg (by omega)]
    unfold timesB; rw [hkk, hle]; rfl
  rw [hR]
  clear hR
  obtain ⟨_, iv, kv, po⟩ := hm.part i p hp
  have hold := hm.old
  have ihH : Hid (TabCall _ _ _ _ _) := ih w hm
  clear ih hm hp
  obtain ⟨a, ha⟩ : ∃ a, a = adrs.getD i 0 := ⟨_, rfl⟩
  rw [← ha] at po
  have e : ptrTo adrs i = .pointer (some ⟨a, 0, none⟩) := by rw [ha]; rfl
  rw [e]
  clear e ha
  have c0 : w.cell? ⟨a, 0, none⟩ = some (.int .i64 6) := by rw [← hk]; exact po.blk.cell 0
  have c3 : w.cell? ⟨a, 3, none⟩ = some (.slice kv.1 kv.2.1 kv.2.2) := po.blk.cell 3
  obtain ⟨hlen, hcell⟩ := po.kid
  rw [hkk] at hlen hcell
  obtain ⟨g, hg, hcj0, hck⟩ := hcell 0 (by simp)
  have hcj : w.cell? ⟨g, 0, none⟩ = some (ptrTo adrs kk) := hcj0
  clear hcj0
  have hblk : Hid (∀ w', Kept [] w w' → w'.cell? ⟨a, 4, none⟩ = some (.int .i64 (le : Int)) ∧ w'.cell? ⟨a, 5, none⟩ = some (.int .i64 p.most)) := fun w' k => by
    have po' := po.frame (w' := w') (fun j hj => k.block j (hold j hj) (by simp))
    have e4 := po'.blk.cell 4
    have e5 := po'.blk.cell 5
    refine ⟨?_, e5⟩
    rw [← hle]; exact e4
  clear po hold hcell
  obtain ⟨ko, kl, kc⟩ := kv
  simp only [] at hlen hg hck c3
  subst hg
  have hlen1 : kl = 1 := hlen
  clear hlen
  subst hlen1
  obtain ⟨y, hy⟩ : ∃ y, ptrTo adrs kk = .pointer (some ⟨y, 0, none⟩) := ⟨_, rfl⟩
  rw [hy] at hcj ihH
  have hml : le ≤ 9 := by omega
  clear hy hk hkk hle h0 h9 hck
  generalize p.most = mo at *
  unfold TabCall
  go_enter Try.func71, Try.ntmps71
  go_wp2_with fail
  refine Calls.mono ihH.out ?_
  rintro e w1 ⟨v, rfl, t1, k1⟩
  obtain ⟨c4, c5⟩ := hblk.out _ k1
  have hth := times_of t.size (by omega) w1.drew v _ _ (t1.kept (S := []) ((Kept.refl [] w1).drew)) le mo (by omega) ⟨m0, by omega⟩
  unfold TabCall at hth
  have hthH : Hid (Calls _ _ _ _ _) := hth
  have hk1 : Hid (Kept _ _ _) := k1
  clear ihH c0 c3 hcj hblk hth t1 k1
  go_wp2_with fail
  go_region_law (go_simp; go_at_call 103; refine hthH.out.mono ?_; rintro _ w2 ⟨v2, rfl, t2, k2⟩)
  all_goals
    have t3 : Hid (TabOf _ _ _ _ _) := t2.mono hk1.out.size
    have k3 : Hid (Kept _ _ _) := hk1.out.drew.trans k2
    clear t2 k2
    go_wp2
    go_ret
    exact ⟨_, rfl, t3.out, k3.out⟩

/-- A part in order: its table. -/
theorem matched_any (ps : List PN) (adrs : List Nat) (F : Nat → Prop) (fold : Bool) (t : ByteArray) (ht : t.size ≤ 1000) {i : Nat} (h : GoodT ps i) : MatchC ps adrs F fold t i := by
  induction h with
  | @leaf i p hp hk =>
    intro w hm
    obtain ⟨_, iv, kv, po⟩ := hm.part i p hp
    have hR := MatR_eq (fold := fold) (t := t) hm.wf hp
    unfold bodyR at hR
    rcases hk with hk | hk | hk
    · rw [if_pos hk] at hR
      rw [hR]
      exact matched_one w F adrs p _ iv kv po hm.old hk fold t ht
    · rw [if_neg (by omega), if_pos hk] at hR
      rw [hR]
      exact matched_begin w F adrs p _ iv kv po hk fold t ht
    · rw [if_neg (by omega), if_neg (by omega), if_pos hk] at hR
      rw [hR]
      exact matched_end w F adrs p _ iv kv po hk fold t ht
  | @many i p hp hk _ ih =>
    rcases hk with hk | hk
    · exact matched_row ps adrs F fold t ht i p hp hk ih
    · exact matched_choice ps adrs F fold t ht i p hp hk ih
  | @times i k p hp hk hkk _ h0 h9 m0 m9 ih => exact matched_times ps adrs F fold t ht i p hp hk k hkk h0 h9 m0 m9 ih

end Go.Proofs.Ytgifhgnccmnbiaa

set_option linter.unusedVariables false
set_option linter.unusedSimpArgs false
namespace Go.Proofs.Ytgifhgnccmnbiaa
open Go.RowKit Go.IntWalk

theorem takes_tie {n : AN} {x : PN} (hneg : n.neg = x.neg) (h : ∀ c : Nat, c < 256 → holdsP n.its (c : Int) = x.ins c) (fold : Bool) (c : Nat) (hc : c < 256) : takesP n fold c = inB x fold c := by
  unfold takesP inB otherC
  rw [h c hc, hneg]
  by_cases h1 : 65 ≤ c ∧ c ≤ 90
  · rw [if_pos h1, h (c + 32) (by omega)]
    simp [h1.1, h1.2, show ¬ 97 ≤ c by omega]
  · rw [if_neg h1]
    have a1 : (decide (65 ≤ c) && decide (c ≤ 90)) = false := by rw [← Bool.decide_and]; exact decide_eq_false h1
    rw [a1]
    by_cases h2 : 97 ≤ c ∧ c ≤ 122
    · rw [if_pos h2, h (c - 32) (by omega)]
      simp [h2.1, h2.2]
    · rw [if_neg h2, h c hc]
      have a2 : (decide (97 ≤ c) && decide (c ≤ 122)) = false := by rw [← Bool.decide_and]; exact decide_eq_false h2
      rw [a2]
      cases x.ins c <;> cases fold <;> rfl
theorem leaf_tie {n : AN} {x : PN} (hk : n.kind = 1) (hk2 : x.kind = 1) (hneg : n.neg = x.neg) (h : ∀ c : Nat, c < 256 → holdsP n.its (c : Int) = x.ins c) : LeafTie n x :=
  Or.inl ⟨hk, hk2, takes_tie hneg h⟩
theorem holds_one (c : Int) (i : Nat) : holdsP [(c, c)] (i : Int) = one c i := by
  simp only [holdsP, one, List.any_cons, List.any_nil, Bool.or_false]
  rw [← Bool.decide_and]
  exact decide_eq_decide.2 (by omega)
theorem dot_tie (n : AN) (x : PN) (hk : n.kind = 1) (hk2 : x.kind = 1) (h1 : n.its = [(0, 255)]) (h2 : n.neg = false) (h3 : x.ins = fun _ => false) (h4 : x.neg = true) : LeafTie n x := by
  refine Or.inl ⟨hk, hk2, fun fold c hc => ?_⟩
  unfold takesP inB
  rw [h1, h2, h3, h4]
  have : holdsP [(0, 255)] (c : Int) = true := by
    simp only [holdsP, List.any_cons, List.any_nil, Bool.or_false]
    rw [← Bool.decide_and]
    exact decide_eq_true (by omega)
  rw [this]
  cases fold <;> simp

theorem item_pair {t : ByteArray} {p : Nat} {f : Nat → Bool} (hp : p < t.size) (h93 : pk t p ≠ 93) (hb : (itemR t (p, false) f).1.2 = false) :
    (itemS t (p, false)).1 = ((memR t (p, false)).1, (toR t (p, false)).1) := by
  have hno : (toR t (p, false)).2.2 = true → False := fun h => by
    unfold itemR at hb
    simp only [] at hb
    split at hb
    · cases hb
    · rw [h] at hb; cases hb
  rcases sync_mem hp h93 with ⟨h1, h2, h3⟩ | ⟨h1, h2, h4⟩
  · obtain ⟨c, s1, hm⟩ : ∃ c s1, memS t (p, false) = (c, s1) := ⟨_, _, rfl⟩
    rw [hm] at h1 h2 h3
    obtain ⟨p1, b1⟩ := s1
    simp only [] at h2 h3
    subst h2
    by_cases hs : secS t (p1, false) = true
    · have hs2 := hs
      simp only [secS, Bool.and_eq_true, beq_iff_eq, bne_iff_ne] at hs2
      obtain ⟨⟨_, g1⟩, g2⟩ := hs2
      have hp1 : p1 + 1 < t.size := by rw [Ne, pk_none] at g1; omega
      have eH : highS t (p, false) = memS t (p1 + 1, false) := by unfold highS; rw [hm]; exact if_pos hs
      have eT : toR t (p, false) = memR t (p1 + 1, false) := by
        unfold toR; rw [← h1]; simp only []; rw [if_pos hs, tk_lt (s := (p1, false)) (by omega)]
      rcases sync_mem hp1 g2 with ⟨k1, k2, k3⟩ | ⟨k1, k2, k4⟩
      · unfold itemS
        rw [eH, eT, hm, ← h1, ← k1]
      · exact (hno (by rw [eT, k2])).elim
    · have eH : highS t (p, false) = memS t (p, false) := by unfold highS; rw [hm]; exact if_neg hs
      have eT : toR t (p, false) = memR t (p, false) := by unfold toR; rw [← h1]; simp only []; rw [if_neg hs]
      unfold itemS
      rw [eH, eT, hm, ← h1]
  · exact (hno (toR_bad (by rw [h2]))).elim

theorem holds_push (acc : List (Int × Int)) (lo hi : Int) (f : Nat → Bool) (h : ∀ c : Nat, c < 256 → holdsP acc (c : Int) = f c) : ∀ c : Nat, c < 256 → holdsP (acc ++ [(lo, hi)]) (c : Int) = fillB f lo hi c := fun c hc => by
  have := h c hc
  unfold holdsP at this ⊢
  rw [List.any_append, this]
  simp only [fillB, List.any_cons, List.any_nil, Bool.or_false]
  rw [← Bool.decide_and]

theorem items_tie {t : ByteArray} : ∀ (n p : Nat) (acc : List (Int × Int)) (f : Nat → Bool), t.size - p ≤ n → p ≤ t.size → (∀ c : Nat, c < 256 → holdsP acc (c : Int) = f c) → (itemsR t (p, false) f).1.2 = false →
    ∀ c : Nat, c < 256 → holdsP (itemsS t (p, false) acc).1 (c : Int) = (itemsR t (p, false) f).2 c
  | n, p, acc, f, hn, hf, hacc, hb => by
    by_cases hq : itemQ t (p, false) = true
    · obtain ⟨hp, h93⟩ := itemQ_iff.1 hq
      have hgt := item_gt (t := t) (s := (p, false)) hp
      have hbad : (itemR t (p, false) f).1.2 = true → False := fun h2 => by
        have : (itemsR t (p, false) f).1.2 = true := by
          cases hc : (takeS t 93 (itemR t (p, false) f).1).1 with
          | true => rw [itemsR_end rfl hc]; exact take_bad h2
          | false => rw [itemsR_on (s := (p, false)) hf rfl hc, itemsR_bad (take_bad h2)]; exact take_bad h2
        rw [this] at hb; cases hb
      rcases sync_item (f := f) hp h93 with ⟨h1, h2⟩ | ⟨h1, h2⟩
      · exact (hbad h2).elim
      · have hib : (itemR t (p, false) f).1.2 = false := by
          cases h : (itemR t (p, false) f).1.2 with
          | false => rfl
          | true => exact (hbad h).elim
        have hpair := item_pair hp h93 hib
        have e2 : (itemR t (p, false) f).2 = fillB f (memR t (p, false)).1 (toR t (p, false)).1 := rfl
        have hacc2 := holds_push acc (memR t (p, false)).1 (toR t (p, false)).1 f hacc
        rw [itemsS_on hq, hpair]
        rw [← e2] at hacc2
        obtain ⟨⟨p1, b1⟩, hs1⟩ : ∃ s1, (itemS t (p, false)).2 = s1 := ⟨_, rfl⟩
        rw [hs1] at h1 h2 hgt ⊢
        simp only [] at h2 hgt
        subst h2
        have hf1 := fits_item (t := t) (s := (p, false)) hf
        rw [hs1] at hf1
        simp only [Fits] at hf1
        by_cases h931 : pk t p1 = 93
        · have hc : takeS t 93 (itemR t (p, false) f).1 = (true, (p1 + 1, false)) := by rw [← h1]; exact take_hit (s := (p1, false)) h931
          rw [itemsR_end rfl (by rw [hc]), itemsS_off (by cases h : itemQ t (p1, false) with | false => rfl | true => exact absurd h931 (itemQ_iff.1 h).2)]
          exact hacc2
        · have hc : takeS t 93 (itemR t (p, false) f).1 = (false, (p1, false)) := by rw [← h1]; exact take_miss (s := (p1, false)) h931
          have e3 := itemsR_on (s := (p, false)) (f := f) hf rfl (by rw [hc])
          rw [e3, hc] at hb ⊢
          match n, hn with
          | 0, hn => omega
          | n + 1, hn => exact items_tie n p1 _ _ (by omega) hf1 hacc2 hb
    · have hno : ¬ p < t.size ∨ pk t p = 93 := by
        by_cases hp : p < t.size
        · right
          by_cases h93 : pk t p = 93
          · exact h93
          · exact absurd (itemQ_iff.2 ⟨hp, h93⟩) hq
        · exact Or.inl hp
      have := itemsR_noMem (f := f) hf hno
      rw [this] at hb; cases hb

theorem rep_order {t : ByteArray} {p : Nat} (hr : repS t (p, false) = true) (h : (repeatS t (p, false)).2.2 = false) : (repeatS t (p, false)).1.2 = -1 ∨ (repeatS t (p, false)).1.1 ≤ (repeatS t (p, false)).1.2 := by
  have e1 : ∃ c s, nextS t (p, false) = (c, s) := ⟨_, _, rfl⟩
  obtain ⟨c, s, e1⟩ := e1
  unfold repeatS at h ⊢
  rw [e1] at h ⊢
  simp only [] at h ⊢
  by_cases h1 : c = 42
  · rw [if_pos h1]; exact Or.inl rfl
  rw [if_neg h1] at h ⊢
  by_cases h2 : c = 43
  · rw [if_pos h2]; exact Or.inl rfl
  rw [if_neg h2] at h ⊢
  by_cases h3 : c = 63
  · rw [if_pos h3]; exact Or.inr (show (0 : Int) ≤ 1 by decide)
  rw [if_neg h3] at h ⊢
  unfold bracesS at h ⊢
  by_cases hc : (takeS t 125 (mostS t s).2).1 = false ∨ ((mostS t s).1 ≠ -1 ∧ (mostS t s).1 < (digS t s).1)
  · rw [if_pos hc] at h; cases h
  · rw [if_neg hc]
    simp only []
    omega

end Go.Proofs.Ytgifhgnccmnbiaa
