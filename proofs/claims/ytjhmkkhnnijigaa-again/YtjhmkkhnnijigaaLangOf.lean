/- The words that a node takes; the part of each node takes them, and has room. No Go in it. -/
import Derived.Test.YtjhmkkhnnijigaaNodesWf
import Derived.Test.YtjhmkkhnnijigaaMatchWalk
set_option linter.unusedVariables false
set_option linter.unusedSimpArgs false
namespace Go.Proofs.Ytjhmkkhnnijigaa

/-- Words: of the numbers of nodes that are steps. -/
inductive W (ns : List AN) : Nat → List Nat → Prop
  | none {k n} : ns[k]? = some n → n.kind = 0 → W ns k []
  | step {k n} : ns[k]? = some n → (n.kind = 1 ∨ n.kind = 2 ∨ n.kind = 3) → W ns k [k]
  | both {k n l r u v} : ns[k]? = some n → n.kind = 4 → n.left = ((l : Nat) : Int) → n.right = ((r : Nat) : Int) → W ns l u → W ns r v → W ns k (u ++ v)
  | left {k n l u} : ns[k]? = some n → n.kind = 5 → n.left = ((l : Nat) : Int) → W ns l u → W ns k u
  | right {k n r u} : ns[k]? = some n → n.kind = 5 → n.right = ((r : Nat) : Int) → W ns r u → W ns k u
  | rep {k n l} {us : List (List Nat)} : ns[k]? = some n → n.kind = 6 → n.left = ((l : Nat) : Int) → (∀ u, u ∈ us → W ns l u) → n.least ≤ (us.length : Int) → (n.most = -1 ∨ (us.length : Int) ≤ n.most) → W ns k us.flatten

section
variable {ns : List AN} {k : Nat} {n : AN} {u : List Nat}
theorem W.zero (hn : ns[k]? = some n) (hk : n.kind = 0) : W ns k u ↔ u = [] := by
  constructor
  · intro h
    cases h with
    | none => rfl
    | step a b => rw [hn] at a; cases a; omega
    | both a b => rw [hn] at a; cases a; omega
    | left a b => rw [hn] at a; cases a; omega
    | right a b => rw [hn] at a; cases a; omega
    | rep a b => rw [hn] at a; cases a; omega
  · rintro rfl; exact W.none hn hk
theorem W.one (hn : ns[k]? = some n) (hk : n.kind = 1 ∨ n.kind = 2 ∨ n.kind = 3) : W ns k u ↔ u = [k] := by
  constructor
  · intro h
    cases h with
    | none a b => rw [hn] at a; cases a; omega
    | step => rfl
    | both a b => rw [hn] at a; cases a; omega
    | left a b => rw [hn] at a; cases a; omega
    | right a b => rw [hn] at a; cases a; omega
    | rep a b => rw [hn] at a; cases a; omega
  · rintro rfl; exact W.step hn hk
theorem W.two (hn : ns[k]? = some n) (hk : n.kind = 4) {l r : Nat} (hl : n.left = (l : Int)) (hr : n.right = (r : Int)) : W ns k u ↔ ∃ x y, u = x ++ y ∧ W ns l x ∧ W ns r y := by
  constructor
  · intro h
    cases h with
    | none a b => rw [hn] at a; cases a; omega
    | step a b => rw [hn] at a; cases a; omega
    | both a b c d x y =>
      rw [hn] at a; cases a
      rw [hl] at c; rw [hr] at d
      cases Int.ofNat_inj.1 c; cases Int.ofNat_inj.1 d
      exact ⟨_, _, rfl, x, y⟩
    | left a b => rw [hn] at a; cases a; omega
    | right a b => rw [hn] at a; cases a; omega
    | rep a b => rw [hn] at a; cases a; omega
  · rintro ⟨x, y, rfl, h1, h2⟩; exact W.both hn hk hl hr h1 h2
theorem W.alt (hn : ns[k]? = some n) (hk : n.kind = 5) {l r : Nat} (hl : n.left = (l : Int)) (hr : n.right = (r : Int)) : W ns k u ↔ W ns l u ∨ W ns r u := by
  constructor
  · intro h
    cases h with
    | none a b => rw [hn] at a; cases a; omega
    | step a b => rw [hn] at a; cases a; omega
    | both a b => rw [hn] at a; cases a; omega
    | left a b c x => rw [hn] at a; cases a; rw [hl] at c; cases Int.ofNat_inj.1 c; exact Or.inl x
    | right a b c x => rw [hn] at a; cases a; rw [hr] at c; cases Int.ofNat_inj.1 c; exact Or.inr x
    | rep a b => rw [hn] at a; cases a; omega
  · rintro (h | h)
    · exact W.left hn hk hl h
    · exact W.right hn hk hr h
theorem W.many (hn : ns[k]? = some n) (hk : n.kind = 6) {l : Nat} (hl : n.left = (l : Int)) : W ns k u ↔ ∃ m, n.least ≤ ((m : Nat) : Int) ∧ (n.most = -1 ∨ (m : Int) ≤ n.most) ∧ Many (W ns l) m u := by
  constructor
  · intro h
    cases h with
    | none a b => rw [hn] at a; cases a; omega
    | step a b => rw [hn] at a; cases a; omega
    | both a b => rw [hn] at a; cases a; omega
    | left a b => rw [hn] at a; cases a; omega
    | right a b => rw [hn] at a; cases a; omega
    | rep a b c x y z => rw [hn] at a; cases a; rw [hl] at c; cases Int.ofNat_inj.1 c; exact ⟨_, y, z, _, rfl, rfl, x⟩
  · rintro ⟨m, h1, h2, us, rfl, rfl, h3⟩; exact W.rep hn hk hl h3 h1 h2
end

/-- The part of the node at place q. -/
def partN (ns : List AN) (q : Nat) : GP := partOfP (ns.getD q dummyN) q (partsQ ns q)
theorem partsQ_get (ns : List AN) : ∀ q i, i < q → (partsQ ns q)[i]? = some (partN ns i)
  | 0, i, h => by omega
  | q + 1, i, h => by
    rw [partsQ]
    by_cases hi : i < q
    · rw [List.getElem?_append_left (by rw [partsQ_length]; exact hi)]
      exact partsQ_get ns q i hi
    · obtain rfl : i = q := by omega
      rw [List.getElem?_append_right (by rw [partsQ_length]; omega), partsQ_length, Nat.sub_self]
      rfl
theorem partAt_get (ns : List AN) {q l : Nat} (h : l < q) : partAtP (partsQ ns q) (l : Int) = partN ns l := by
  unfold partAtP
  rw [if_pos (by omega), Int.toNat_natCast, partsQ_get ns q l h]
  rfl
theorem lastQ_eq (ns : List AN) (q : Nat) : lastQ ns (q + 1) = partN ns q := rfl

theorem stepP_fit (k : Nat) : (stepP k).Fit := by
  have h1 : ∀ i, (1#64 : B64).getLsbD i = true → i < 1 := fun i h => by
    rw [BitVec.getLsbD_one] at h
    simp at h
    omega
  exact ⟨by show (1 : Nat) ≤ 60; omega, h1, h1, fun s i h => by simp [stepP] at h⟩
theorem stepP_lang (k : Nat) (u : List Nat) : (stepP k).Lang u ↔ u = [k] := by
  have hb : (1#64 : B64).getLsbD 0 = true := by decide
  constructor
  · rintro ⟨l, hl, rfl⟩
    cases l with
    | nil => simp [GP.Acc, stepP] at hl
    | cons d r =>
      have hd := (stepP_fit k).first d hl.1
      simp only [stepP] at hd
      obtain rfl : d = 0 := by omega
      cases r with
      | nil => rfl
      | cons e r => have := hl.2.1; simp [stepP] at this
  · rintro rfl
    exact ⟨[0], ⟨hb, hb⟩, rfl⟩

/-- What is to be shown of a node's part. -/
structure PartOfN (ns : List AN) (q : Nat) : Prop where
  fit : (partN ns q).Fit
  count : ((partN ns q).count : Int) ≤ sizeAt ns q
  lang : ∀ u, (partN ns q).Lang u ↔ W ns q u
  node : ∀ i, (partN ns q).node i ≤ q

theorem repN_le {a b : Int} (h0 : 0 ≤ a) (hb : b = -1 ∨ 0 ≤ b) : ((repN a b : Nat) : Int) ≤ timesS a b := by
  unfold repN timesS
  by_cases h : b = -1
  · rw [if_pos h, if_pos h]; repeat' split
    all_goals omega
  · rw [if_neg h, if_neg h]; split <;> omega

theorem beside_node (a b : GP) (q : Nat) (ha : ∀ i, a.node i ≤ q) (hb : ∀ i, b.node i ≤ q) (i : Nat) : (besideP a b).node i ≤ q := by
  simp only [besideP]; split
  · exact hb _
  · exact ha _
theorem copies_node (a : GP) (q : Nat) (ha : ∀ i, a.node i ≤ q) (e : Bool) (l t : Nat) : ∀ k i, (copiesP a e l t k).node i ≤ q
  | 0, i => Nat.zero_le _
  | k + 1, i => by
    refine beside_node _ _ q (copies_node a q ha e l t k) (fun i => ?_) i
    unfold oneP
    simp only []
    repeat' split
    all_goals exact ha i

theorem part_step {ns : List AN} (hok : NodesOk ns) (hall : ∀ i, i < ns.length → sizeAt ns i ≤ 60) (hlen : ns.length ≤ 900) {q : Nat} (hq : q < ns.length) (ih : ∀ l, l < q → PartOfN ns l) :
    PartOfN ns q ∧ ∃ n, ns[q]? = some n ∧ 0 ≤ n.kind ∧ n.kind ≤ 6 ∧ NodeFits n (partsQ ns q) := by
  obtain ⟨n, hn⟩ : ∃ n, ns[q]? = some n := ⟨_, List.getElem?_eq_getElem hq⟩
  have hgd : ns.getD q dummyN = n := by rw [List.getD_eq_getElem?_getD, hn]; rfl
  have hsz : sizeAt ns q = n.size := by unfold sizeAt; rw [hn]; rfl
  have h60 := hall q hq
  obtain ⟨h1, h2, h3, h4⟩ := hok q n hn
  have hP : partN ns q = partOfP n q (partsQ ns q) := by unfold partN; rw [hgd]
  rcases h4 with ⟨hk, hl, hr, hs⟩ | ⟨hk, l, r, hlq, hrq, hl, hr, hs⟩ | ⟨hk, l, hlq, hl, hr, b1, b2, b3, b4, b5, hs⟩
  · refine ⟨?_, n, hn, by omega, by omega, ⟨by omega, by omega, fun h => by omega, fun h => by omega, fun h => by omega⟩⟩
    by_cases h0 : n.kind = 0
    · have e : partN ns q = noneP := by rw [hP]; unfold partOfP; rw [if_pos h0]
      exact ⟨by rw [e]; exact noneP_fit, by rw [e, hsz]; show ((0 : Nat) : Int) ≤ _; omega, fun u => by rw [e, noneP_lang, W.zero hn h0], fun i => by rw [e]; exact Nat.zero_le _⟩
    · have e : partN ns q = stepP q := by rw [hP]; unfold partOfP; rw [if_neg h0, if_neg (by omega), if_neg (by omega), if_neg (by omega)]
      exact ⟨by rw [e]; exact stepP_fit q, by rw [e, hsz]; show ((1 : Nat) : Int) ≤ _; omega, fun u => by rw [e, stepP_lang, W.one hn (by omega)], fun i => by rw [e]; simp only [stepP]; split <;> omega⟩
  · have pl := ih l hlq
    have pr := ih r hrq
    have el := partAt_get ns hlq
    have er := partAt_get ns hrq
    have hsum : (partN ns l).count + (partN ns r).count ≤ 60 := by
      have := pl.count; have := pr.count
      rw [hsz, hs] at h60
      split at h60 <;> omega
    have hcnt : (((partN ns l).count + (partN ns r).count : Nat) : Int) ≤ sizeAt ns q := by
      have := pl.count; have := pr.count
      rw [hsz, hs]
      rw [hsz, hs] at h60
      split <;> split at h60 <;> omega
    refine ⟨?_, n, hn, by omega, by omega, ⟨by omega, by omega, fun _ => by rw [hl, hr, el, er]; exact hsum, fun h => by omega, fun h => by omega⟩⟩
    rcases hk with hk | hk
    · have e : partN ns q = bothP (partN ns l) (partN ns r) := by rw [hP]; unfold partOfP; rw [if_neg (by omega), if_pos hk, hl, hr, el, er]
      refine ⟨by rw [e]; exact both_fit pl.fit pr.fit hsum, by rw [e]; exact hcnt, fun u => ?_, fun i => by rw [e]; exact beside_node _ _ q (fun i => by have := pl.node i; omega) (fun i => by have := pr.node i; omega) i⟩
      rw [e, both_lang pl.fit pr.fit hsum, W.two hn hk hl hr]
      simp only [pl.lang, pr.lang]
    · have e : partN ns q = eitherP (partN ns l) (partN ns r) := by rw [hP]; unfold partOfP; rw [if_neg (by omega), if_neg (by omega), if_pos hk, hl, hr, el, er]
      refine ⟨by rw [e]; exact either_fit pl.fit pr.fit hsum, by rw [e]; exact hcnt, fun u => ?_, fun i => by rw [e]; exact beside_node _ _ q (fun i => by have := pl.node i; omega) (fun i => by have := pr.node i; omega) i⟩
      rw [e, either_lang pl.fit pr.fit hsum, W.alt hn hk hl hr]
      simp only [pl.lang, pr.lang]
  · have pl := ih l hlq
    have el := partAt_get ns hlq
    have hle := repN_le (a := n.least) (b := n.most) b1 (by omega)
    have hsl : 1 ≤ sizeAt ns l := (hok.size (by omega)).1
    have hmul : ((repN n.least n.most * (partN ns l).count : Nat) : Int) ≤ sizeAt ns l * timesS n.least n.most := by
      rw [Int.natCast_mul, Int.mul_comm]
      exact Int.mul_le_mul pl.count hle (by omega) (by omega)
    have hrep : repN n.least n.most * (partN ns l).count ≤ 60 := by
      rw [hsz, hs] at h60
      split at h60 <;> omega
    have hcnt : ((repN n.least n.most * (partN ns l).count : Nat) : Int) ≤ sizeAt ns q := by
      rw [hsz, hs]
      rw [hsz, hs] at h60
      split <;> split at h60 <;> omega
    refine ⟨?_, n, hn, by omega, by omega, ⟨by omega, by omega, fun h => by omega, fun _ => by rw [hl, el]; exact pl.fit, fun _ => ⟨b1, b2, b3, b4, by rw [hl, el]; exact hrep⟩⟩⟩
    have e : partN ns q = repP (partN ns l) n.least n.most := by rw [hP]; unfold partOfP; rw [if_neg (by omega), if_neg (by omega), if_neg (by omega), if_pos hk, hl, el]
    have hnode : ∀ i, (partN ns q).node i ≤ q := fun i => by
      rw [e]; unfold repP
      split <;> exact copies_node _ q (fun i => by have := pl.node i; omega) _ _ _ _ i
    by_cases hm : n.most = -1
    · have er : repN n.least n.most = (if n.least.toNat < 1 then 1 else n.least.toNat) := by unfold repN; rw [if_pos hm]
      have ep : repP (partN ns l) n.least n.most = copiesP (partN ns l) true n.least.toNat (repN n.least n.most) (repN n.least n.most) := by rw [er]; unfold repP; rw [if_pos hm]
      obtain ⟨f1, f2⟩ := copiesP_fit pl.fit true n.least.toNat (repN n.least n.most) (repN n.least n.most) hrep
      refine ⟨by rw [e, ep]; exact f1, by rw [e, ep, f2]; exact hcnt, fun u => ?_, hnode⟩
      rw [e, ep, er, endless_lang pl.fit n.least.toNat (by rw [← er]; exact hrep), W.many hn hk hl]
      constructor
      · rintro ⟨m, h5, us, h6, h7, h8⟩; exact ⟨m, by omega, Or.inl hm, us, h6, h7, fun x hx => (pl.lang x).1 (h8 x hx)⟩
      · rintro ⟨m, h5, _, us, h6, h7, h8⟩; exact ⟨m, by omega, us, h6, h7, fun x hx => (pl.lang x).2 (h8 x hx)⟩
    · have er : repN n.least n.most = n.most.toNat := by unfold repN; rw [if_neg hm]
      have ep : repP (partN ns l) n.least n.most = copiesP (partN ns l) false n.least.toNat (repN n.least n.most) (repN n.least n.most) := by rw [er]; unfold repP; rw [if_neg hm]
      obtain ⟨f1, f2⟩ := copiesP_fit pl.fit false n.least.toNat (repN n.least n.most) (repN n.least n.most) hrep
      refine ⟨by rw [e, ep]; exact f1, by rw [e, ep, f2]; exact hcnt, fun u => ?_, hnode⟩
      rw [e, ep, er, upto_lang pl.fit n.least.toNat n.most.toNat (by rw [← er]; exact hrep) (by omega), W.many hn hk hl]
      constructor
      · rintro ⟨m, h5, h9, us, h6, h7, h8⟩; exact ⟨m, by omega, Or.inr (by omega), us, h6, h7, fun x hx => (pl.lang x).1 (h8 x hx)⟩
      · rintro ⟨m, h5, h9, us, h6, h7, h8⟩; exact ⟨m, by omega, by omega, us, h6, h7, fun x hx => (pl.lang x).2 (h8 x hx)⟩

theorem part_all {ns : List AN} (hok : NodesOk ns) (hall : ∀ i, i < ns.length → sizeAt ns i ≤ 60) (hlen : ns.length ≤ 900) : ∀ m q, q < m → q < ns.length → PartOfN ns q
  | 0, _, h, _ => by omega
  | m + 1, q, h, hq => (part_step hok hall hlen hq (fun l hl => part_all hok hall hlen m l (by omega) (by omega))).1
theorem nodes_fit {ns : List AN} (hok : NodesOk ns) (hall : ∀ i, i < ns.length → sizeAt ns i ≤ 60) (hlen : ns.length ≤ 900) : NodesFit ns := fun q n hn => by
  have hq := (List.getElem?_eq_some_iff.1 hn).1
  obtain ⟨_, n', hn', h⟩ := part_step hok hall hlen hq (fun l hl => part_all hok hall hlen q l hl (by omega))
  rw [hn] at hn'
  cases hn'
  exact h

end Go.Proofs.Ytjhmkkhnnijigaa
