/- What a node matches, by its kind; the same node further on in a greater list. No Go in it. -/
import Derived.Test.YtjhmkkhnnijigaaTrack
import Derived.Test.YtjhmkkhnnijigaaShift2
set_option linter.unusedVariables false
set_option linter.unusedSimpArgs false
namespace Go.Proofs.Ytjhmkkhnnijigaa

/-- So many times, one behind the other. -/
def PowM (n : Nat) (R : Nat → Nat → Prop) : Nat → Nat → Nat → Prop
  | 0, i, j => i = j ∧ i ≤ n
  | c + 1, i, j => ∃ m, PowM n R c i m ∧ R m j
theorem PowM.congr {n : Nat} {R R' : Nat → Nat → Prop} (h : ∀ i j, R i j ↔ R' i j) : ∀ c i j, PowM n R c i j ↔ PowM n R' c i j
  | 0, i, j => Iff.rfl
  | c + 1, i, j => by
    simp only [PowM]
    constructor
    · rintro ⟨m, h1, h2⟩; exact ⟨m, (PowM.congr h c i m).1 h1, (h m j).1 h2⟩
    · rintro ⟨m, h1, h2⟩; exact ⟨m, (PowM.congr h c i m).2 h1, (h m j).2 h2⟩

section
variable {ns : List AN} {fold : Bool} {t : ByteArray} {k : Nat} {n : AN} {i j : Nat}
theorem Mat.le (h : Mat ns fold t k i j) : i ≤ t.size ∧ j ≤ t.size ∧ i ≤ j := by
  obtain ⟨u, _, h⟩ := h; exact h.le
theorem Mat.zero (hn : ns[k]? = some n) (hk : n.kind = 0) : Mat ns fold t k i j ↔ i = j ∧ i ≤ t.size := by
  constructor
  · rintro ⟨u, h1, h2⟩
    have := (W.zero hn hk).1 h1
    subst this; exact h2
  · rintro h; exact ⟨[], (W.zero hn hk).2 rfl, h⟩
theorem Mat.one (hn : ns[k]? = some n) (hk : n.kind = 1 ∨ n.kind = 2 ∨ n.kind = 3) : Mat ns fold t k i j ↔ Go1 ns fold t k i j := by
  constructor
  · rintro ⟨u, h1, h2⟩
    have := (W.one hn hk).1 h1
    subst this
    obtain ⟨m, h3, rfl, _⟩ := h2
    exact h3
  · intro h
    refine ⟨[k], (W.one hn hk).2 rfl, j, h, rfl, ?_⟩
    obtain ⟨n', _, ⟨_, rfl, h3, _⟩ | ⟨_, rfl, rfl⟩ | ⟨_, rfl, rfl⟩⟩ := h <;> omega
theorem Mat.two (hn : ns[k]? = some n) (hk : n.kind = 4) {l r : Nat} (hl : n.left = (l : Int)) (hr : n.right = (r : Int)) : Mat ns fold t k i j ↔ ∃ m, Mat ns fold t l i m ∧ Mat ns fold t r m j := by
  constructor
  · rintro ⟨u, h1, h2⟩
    obtain ⟨x, y, rfl, h3, h4⟩ := (W.two hn hk hl hr).1 h1
    obtain ⟨m, h5, h6⟩ := Tr.app.1 h2
    exact ⟨m, ⟨x, h3, h5⟩, ⟨y, h4, h6⟩⟩
  · rintro ⟨m, ⟨x, h3, h5⟩, ⟨y, h4, h6⟩⟩
    exact ⟨x ++ y, (W.two hn hk hl hr).2 ⟨x, y, rfl, h3, h4⟩, Tr.app.2 ⟨m, h5, h6⟩⟩
theorem Mat.alt (hn : ns[k]? = some n) (hk : n.kind = 5) {l r : Nat} (hl : n.left = (l : Int)) (hr : n.right = (r : Int)) : Mat ns fold t k i j ↔ Mat ns fold t l i j ∨ Mat ns fold t r i j := by
  constructor
  · rintro ⟨u, h1, h2⟩
    rcases (W.alt hn hk hl hr).1 h1 with h | h
    · exact Or.inl ⟨u, h, h2⟩
    · exact Or.inr ⟨u, h, h2⟩
  · rintro (⟨u, h1, h2⟩ | ⟨u, h1, h2⟩)
    · exact ⟨u, (W.alt hn hk hl hr).2 (Or.inl h1), h2⟩
    · exact ⟨u, (W.alt hn hk hl hr).2 (Or.inr h1), h2⟩
theorem pow_many (l : Nat) : ∀ c i j, (∃ u, Many (W ns l) c u ∧ Tr ns fold t u i j) ↔ PowM t.size (Mat ns fold t l) c i j
  | 0, i, j => by
    simp only [PowM]
    constructor
    · rintro ⟨u, h1, h2⟩
      have := (many_zero _ _).1 h1
      subst this; exact h2
    · intro h; exact ⟨[], (many_zero _ _).2 rfl, h⟩
  | c + 1, i, j => by
    simp only [PowM]
    constructor
    · rintro ⟨u, h1, h2⟩
      obtain ⟨x, y, rfl, h3, h4⟩ := (many_succ _ _ _).1 h1
      obtain ⟨m, h5, h6⟩ := Tr.app.1 h2
      exact ⟨m, (pow_many l c i m).1 ⟨x, h3, h5⟩, ⟨y, h4, h6⟩⟩
    · rintro ⟨m, h1, ⟨y, h4, h6⟩⟩
      obtain ⟨x, h3, h5⟩ := (pow_many l c i m).2 h1
      exact ⟨x ++ y, (many_succ _ _ _).2 ⟨x, y, rfl, h3, h4⟩, Tr.app.2 ⟨m, h5, h6⟩⟩
theorem Mat.many (hn : ns[k]? = some n) (hk : n.kind = 6) {l : Nat} (hl : n.left = (l : Int)) : Mat ns fold t k i j ↔ ∃ c, n.least ≤ ((c : Nat) : Int) ∧ (n.most = -1 ∨ (c : Int) ≤ n.most) ∧ PowM t.size (Mat ns fold t l) c i j := by
  constructor
  · rintro ⟨u, h1, h2⟩
    obtain ⟨c, h3, h4, h5⟩ := (W.many hn hk hl).1 h1
    exact ⟨c, h3, h4, (pow_many l c i j).1 ⟨u, h5, h2⟩⟩
  · rintro ⟨c, h3, h4, h5⟩
    obtain ⟨u, h6, h7⟩ := (pow_many l c i j).2 h5
    exact ⟨u, (W.many hn hk hl).2 ⟨c, h3, h4, h6⟩, h7⟩
end

/-- The list ns stands in ms, k places further on. -/
def In (ns ms : List AN) (k : Nat) : Prop := ∀ i n, ns[i]? = some n → ms[k + i]? = some (shN k n)
theorem in_shL (pre ns more : List AN) : In ns (shL pre ns ++ more) pre.length := fun i n hn => by
  have hi := (List.getElem?_eq_some_iff.1 hn).1
  unfold shL
  rw [List.getElem?_append_left (by simp; omega), List.getElem?_append_right (by omega), show pre.length + i - pre.length = i by omega, List.getElem?_map, hn]
  rfl
theorem go_emb {ns ms : List AN} {k : Nat} (he : In ns ms k) {fold : Bool} {t : ByteArray} {b : Nat} (hb : b < ns.length) (i j : Nat) : Go1 ms fold t (k + b) i j ↔ Go1 ns fold t b i j := by
  obtain ⟨n, hn⟩ : ∃ n, ns[b]? = some n := ⟨_, List.getElem?_eq_getElem hb⟩
  have hm := he b n hn
  unfold Go1
  rw [hn, hm]
  simp only [Option.some.injEq, exists_eq_left']
  exact Iff.rfl
theorem Mat.emb {ns ms : List AN} {k : Nat} (hok : NodesOk ns) (he : In ns ms k) (fold : Bool) (t : ByteArray) : ∀ m b, b < m → b < ns.length → ∀ i j, Mat ms fold t (k + b) i j ↔ Mat ns fold t b i j
  | 0, _, h, _, _, _ => by omega
  | m + 1, b, hbm, hb, i, j => by
    obtain ⟨n, hn⟩ : ∃ n, ns[b]? = some n := ⟨_, List.getElem?_eq_getElem hb⟩
    have hm := he b n hn
    obtain ⟨_, _, _, h4⟩ := hok b n hn
    have hkind : (shN k n).kind = n.kind := rfl
    rcases h4 with ⟨hk, _⟩ | ⟨hk, l, r, hlq, hrq, hl, hr, _⟩ | ⟨hk, l, hlq, hl, hr, _⟩
    · by_cases h0 : n.kind = 0
      · rw [Mat.zero hm h0, Mat.zero hn h0]
      · rw [Mat.one hm (by rw [hkind]; omega), Mat.one hn (by omega)]
        exact go_emb he hb i j
    · have hl2 : (shN k n).left = ((k + l : Nat) : Int) := by simp only [shN]; rw [if_pos (by omega), hl]; omega
      have hr2 : (shN k n).right = ((k + r : Nat) : Int) := by simp only [shN]; rw [if_pos hk, hr]; omega
      have il := fun i j => Mat.emb hok he fold t m l (by omega) (by omega) i j
      have ir := fun i j => Mat.emb hok he fold t m r (by omega) (by omega) i j
      rcases hk with hk | hk
      · rw [Mat.two hm hk hl2 hr2, Mat.two hn hk hl hr]
        simp only [il, ir]
      · rw [Mat.alt hm hk hl2 hr2, Mat.alt hn hk hl hr]
        simp only [il, ir]
    · have hl2 : (shN k n).left = ((k + l : Nat) : Int) := by simp only [shN]; rw [if_pos (by omega), hl]; omega
      have il := fun i j => Mat.emb hok he fold t m l (by omega) (by omega) i j
      rw [Mat.many hm hk hl2, Mat.many hn hk hl]
      constructor
      · rintro ⟨c, h1, h2, h3⟩; exact ⟨c, h1, h2, (PowM.congr il c i j).1 h3⟩
      · rintro ⟨c, h1, h2, h3⟩; exact ⟨c, h1, h2, (PowM.congr il c i j).2 h3⟩

end Go.Proofs.Ytjhmkkhnnijigaa
