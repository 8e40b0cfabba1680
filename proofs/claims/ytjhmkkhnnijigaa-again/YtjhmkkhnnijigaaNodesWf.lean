/- The reader's list of nodes: each node stands behind those that it is made of; its size; nothing is larger than the whole. No Go in it. -/
import Derived.Test.YtjhmkkhnnijigaaDeriv
set_option linter.unusedVariables false
set_option linter.unusedSimpArgs false
namespace Go.Proofs.Ytjhmkkhnnijigaa

/-- What a node at place q is. -/
def NodeOk (ns : List AN) (q : Nat) (n : AN) : Prop :=
  1 ≤ n.size ∧ n.size ≤ 61 ∧ n.its.length ≤ 1000 ∧
  (((n.kind = 0 ∨ n.kind = 1 ∨ n.kind = 2 ∨ n.kind = 3) ∧ n.left = 0 ∧ n.right = 0 ∧ n.size = 1) ∨
   ((n.kind = 4 ∨ n.kind = 5) ∧ ∃ l r : Nat, l < q ∧ r < q ∧ n.left = (l : Int) ∧ n.right = (r : Int) ∧ n.size = (if 61 < sizeAt ns l + sizeAt ns r then 61 else sizeAt ns l + sizeAt ns r)) ∨
   (n.kind = 6 ∧ ∃ l : Nat, l < q ∧ n.left = (l : Int) ∧ n.right = 0 ∧ 0 ≤ n.least ∧ n.least ≤ 9 ∧ -1 ≤ n.most ∧ n.most ≤ 9 ∧ (n.most = -1 ∨ n.least ≤ n.most) ∧ n.size = (if 61 < sizeAt ns l * timesS n.least n.most then 61 else sizeAt ns l * timesS n.least n.most)))
def NodesOk (ns : List AN) : Prop := ∀ q n, ns[q]? = some n → NodeOk ns q n

theorem sizeN_app {ns more : List AN} {i : Nat} (h : i < ns.length) : sizeAt (ns ++ more) i = sizeAt ns i := by
  unfold sizeAt; rw [List.getElem?_append_left h]
theorem sizeN_new (ns : List AN) (n : AN) : sizeAt (ns ++ [n]) ns.length = n.size := by
  unfold sizeAt; simp
theorem NodeOk.app {ns more : List AN} {q : Nat} {n : AN} (h : NodeOk ns q n) (hq : q ≤ ns.length) : NodeOk (ns ++ more) q n := by
  obtain ⟨h1, h2, h3, h4⟩ := h
  refine ⟨h1, h2, h3, ?_⟩
  rcases h4 with h4 | ⟨hk, l, r, a, b, c, d, e⟩ | ⟨hk, l, a, b, c⟩
  · exact Or.inl h4
  · exact Or.inr (Or.inl ⟨hk, l, r, a, b, c, d, by rw [sizeN_app (by omega), sizeN_app (by omega)]; exact e⟩)
  · exact Or.inr (Or.inr ⟨hk, l, a, b, by rw [sizeN_app (by omega)]; exact c⟩)
theorem NodesOk.snoc {ns : List AN} {n : AN} (h : NodesOk ns) (hn : NodeOk ns ns.length n) : NodesOk (ns ++ [n]) := by
  intro q m hm
  by_cases hq : q < ns.length
  · rw [List.getElem?_append_left hq] at hm
    exact (h q m hm).app (by omega)
  · have hl := (List.getElem?_eq_some_iff.1 hm).1
    simp at hl
    obtain rfl : q = ns.length := by omega
    rw [List.getElem?_append_right (Nat.le_refl _), Nat.sub_self] at hm
    simp at hm
    subst hm
    exact hn.app (Nat.le_refl _)
theorem NodesOk.size {ns : List AN} (h : NodesOk ns) {i : Nat} (hi : i < ns.length) : 1 ≤ sizeAt ns i ∧ sizeAt ns i ≤ 61 := by
  unfold sizeAt
  obtain ⟨n, hn⟩ : ∃ n, ns[i]? = some n := ⟨_, List.getElem?_eq_getElem hi⟩
  rw [hn]
  exact ⟨(h i n hn).1, (h i n hn).2.1⟩

/-- What a step makes of the list. -/
structure Gr (tag cur : Nat) (st : PS) (r : Nat × PS) : Prop where
  ok : NodesOk r.2.2
  app : ∃ more, r.2.2 = st.2 ++ more
  top : r.1 + 1 = r.2.2.length
  big : ∀ i, st.2.length ≤ i → i < r.2.2.length → sizeAt r.2.2 i ≤ sizeAt r.2.2 r.1
  cur : 4 ≤ tag → sizeAt st.2 cur ≤ sizeAt r.2.2 r.1

theorem leaf_gr {tag cur : Nat} {s0 : RS} {s : RS} {ns : List AN} (n : AN) (hs : n.size = 1) (h : NodesOk ns) (hk : n.kind = 0 ∨ n.kind = 1 ∨ n.kind = 2 ∨ n.kind = 3) (h1 : n.left = 0) (h2 : n.right = 0) (h3 : n.its.length ≤ 1000) (ht : ¬ 4 ≤ tag) :
    Gr tag cur (s0, ns) (addS n (s, ns)) := by
  have hc : capN n = n := by unfold capN; rw [hs]; rw [if_neg (by omega)]; rw [← hs]
  refine ⟨?_, ⟨[capN n], rfl⟩, by simp [addS], fun i hi hl => ?_, fun hc => absurd hc ht⟩
  · show NodesOk (ns ++ [capN n])
    rw [hc]
    exact h.snoc ⟨by omega, by omega, h3, Or.inl ⟨hk, h1, h2, hs⟩⟩
  · simp [addS] at hl
    obtain rfl : i = ns.length := by simp at hi; omega
    exact Int.le_refl _

theorem cap_le {a b : Int} (h : a ≤ b) (h61 : a ≤ 61) : a ≤ (if 61 < b then 61 else b) := by split <;> omega

/-- A node out of others, laid behind the list. -/
theorem join_ok {kind : Int} {cur j : Nat} {s : RS} {ns : List AN} (hk : kind = 4 ∨ kind = 5) (h : NodesOk ns) (hc : cur < ns.length) (hj : j < ns.length) :
    NodesOk (joinS kind cur j (s, ns)).2.2 ∧ (joinS kind cur j (s, ns)).1 + 1 = (joinS kind cur j (s, ns)).2.2.length ∧
    sizeAt ns cur ≤ sizeAt (joinS kind cur j (s, ns)).2.2 (joinS kind cur j (s, ns)).1 ∧ sizeAt ns j ≤ sizeAt (joinS kind cur j (s, ns)).2.2 (joinS kind cur j (s, ns)).1 := by
  have h1 := h.size hc
  have h2 := h.size hj
  have e : sizeAt (joinS kind cur j (s, ns)).2.2 (joinS kind cur j (s, ns)).1 = (if 61 < sizeAt ns cur + sizeAt ns j then 61 else sizeAt ns cur + sizeAt ns j) := by
    simp only [joinS, addS]; rw [sizeN_new]; rfl
  refine ⟨h.snoc ⟨?_, ?_, by show (0 : Nat) ≤ 1000; omega, Or.inr (Or.inl ⟨hk, cur, j, hc, hj, rfl, rfl, rfl⟩)⟩, by simp [joinS, addS], ?_, ?_⟩
  · simp only [capN]; split <;> omega
  · simp only [capN]; split <;> omega
  · rw [e]; exact cap_le (by omega) (by omega)
  · rw [e]; exact cap_le (by omega) (by omega)

theorem repeat_le (t : ByteArray) (s : RS) : (repeatS t s).1.2 = -1 ∨ (repeatS t s).1.1 ≤ (repeatS t s).1.2 := by
  unfold repeatS
  repeat' split
  · exact Or.inl rfl
  · exact Or.inl rfl
  · right; simp
  · unfold bracesS
    split
    · right; simp
    · rename_i h
      simp only []
      by_cases hm : (mostS t (nextS t s).2).1 = -1
      · exact Or.inl hm
      · right
        have : ¬ ((mostS t (nextS t s).2).1 ≠ -1 ∧ (mostS t (nextS t s).2).1 < (digS t (nextS t s).2).1) := fun hc => h (Or.inr hc)
        omega

theorem times_pos (a b : Int) : 1 ≤ timesS a b := by
  unfold timesS; repeat' split
  all_goals omega
theorem mul_ge {a b : Int} (ha : 1 ≤ a) (hb : 1 ≤ b) : a ≤ a * b := by
  have := Int.mul_le_mul_of_nonneg_left hb (by omega : (0 : Int) ≤ a)
  omega
theorem again_ok {cur : Nat} {s : RS} {ns : List AN} {lm : Int × Int} (h : NodesOk ns) (hc : cur < ns.length) (hb : 0 ≤ lm.1 ∧ lm.1 ≤ 9 ∧ -1 ≤ lm.2 ∧ lm.2 ≤ 9) (hle : lm.2 = -1 ∨ lm.1 ≤ lm.2) :
    NodesOk (againS cur lm (s, ns)).2.2 ∧ (againS cur lm (s, ns)).1 + 1 = (againS cur lm (s, ns)).2.2.length ∧
    sizeAt ns cur ≤ sizeAt (againS cur lm (s, ns)).2.2 (againS cur lm (s, ns)).1 := by
  have h1 := h.size hc
  have hm := mul_ge h1.1 (times_pos lm.1 lm.2)
  have e : sizeAt (againS cur lm (s, ns)).2.2 (againS cur lm (s, ns)).1 = (if 61 < sizeAt ns cur * timesS lm.1 lm.2 then 61 else sizeAt ns cur * timesS lm.1 lm.2) := by
    simp only [againS, addS]; rw [sizeN_new]; rfl
  refine ⟨h.snoc ⟨?_, ?_, by show (0 : Nat) ≤ 1000; omega, Or.inr (Or.inr ⟨rfl, cur, hc, rfl, rfl, hb.1, hb.2.1, hb.2.2.1, hb.2.2.2, hle, rfl⟩)⟩, by simp [againS, addS], ?_⟩
  · simp only [capN]; split <;> omega
  · simp only [capN]; split <;> omega
  · rw [e]; exact cap_le hm (by omega)

theorem items_len (t : ByteArray) : ∀ (f : Nat) (s : RS) (acc : List (Int × Int)), (itemsF t f s acc).1.length ≤ acc.length + f
  | 0, s, acc => Nat.le_refl _
  | f + 1, s, acc => by
    rw [itemsF]
    split
    · have := items_len t f (itemS t s).2 (acc ++ [(itemS t s).1])
      simp at this
      omega
    · exact Nat.le_add_right _ _

theorem Gr.refl {tag cur : Nat} {st : PS} (h : NodesOk st.2) (hc : cur + 1 = st.2.length) : Gr tag cur st (cur, st) :=
  ⟨h, ⟨[], by simp⟩, hc, fun i h1 h2 => by simp only [] at h2; omega, fun _ => Int.le_refl _⟩
theorem Gr.comp {ta ca tb cb t c : Nat} {st stb : PS} {r1 r : Nat × PS} {extra : List AN} (ga : Gr ta ca st r1) (gb : Gr tb cb stb r) (he : stb.2 = r1.2.2 ++ extra)
    (hx : ∀ i, r1.2.2.length ≤ i → i < stb.2.length → sizeAt stb.2 i ≤ sizeAt stb.2 cb) (hc : sizeAt r1.2.2 r1.1 ≤ sizeAt stb.2 cb) (htb : 4 ≤ tb) (hcur : 4 ≤ t → sizeAt st.2 c ≤ sizeAt stb.2 cb) : Gr t c st r := by
  obtain ⟨m1, e1⟩ := ga.app
  obtain ⟨m2, e2⟩ := gb.app
  have hcb := gb.cur htb
  refine ⟨gb.ok, ⟨m1 ++ extra ++ m2, by rw [e2, he, e1]; simp⟩, gb.top, fun i h1 h2 => ?_, fun h => Int.le_trans (hcur h) hcb⟩
  by_cases hi : i < r1.2.2.length
  · have h3 := ga.big i h1 hi
    have h4 : sizeAt r.2.2 i = sizeAt r1.2.2 i := by rw [e2, he, List.append_assoc, sizeN_app hi]
    rw [h4]
    exact Int.le_trans h3 (Int.le_trans hc hcb)
  · by_cases hj : i < stb.2.length
    · have h3 := hx i (by omega) hj
      have h4 : sizeAt r.2.2 i = sizeAt stb.2 i := by rw [e2, sizeN_app hj]
      rw [h4]
      exact Int.le_trans h3 hcb
    · exact gb.big i (by omega) h2

/-- WHAT THE READER MAKES OF THE LIST. -/
theorem D.gr {t : ByteArray} (ht : t.size ≤ 1000) {tag cur : Nat} {st : PS} {r : Nat × PS} (h : D t tag cur st r) : NodesOk st.2 → (4 ≤ tag → cur + 1 = st.2.length) → Gr tag cur st r := by
  induction h with
  | pattern _ _ a b =>
    intro hn _
    have g1 := a hn (fun h => by omega)
    have g2 := b g1.ok (fun _ => g1.top)
    exact g1.comp (extra := []) g2 (by simp) (fun i h1 h2 => by omega) (Int.le_refl _) (by omega) (fun h => by omega)
  | empty he => intro hn _; exact leaf_gr _ rfl hn (Or.inl rfl) rfl rfl (Nat.zero_le _) (by omega)
  | branch he _ _ a b =>
    intro hn _
    have g1 := a hn (fun h => by omega)
    have g2 := b g1.ok (fun _ => g1.top)
    exact g1.comp (extra := []) g2 (by simp) (fun i h1 h2 => by omega) (Int.le_refl _) (by omega) (fun h => by omega)
  | piece _ _ a b =>
    intro hn _
    have g1 := a hn (fun h => by omega)
    have g2 := b g1.ok (fun _ => g1.top)
    exact g1.comp (extra := []) g2 (by simp) (fun i h1 h2 => by omega) (Int.le_refl _) (by omega) (fun h => by omega)
  | group he _ a =>
    intro hn _
    have g1 := a hn (fun h => by omega)
    exact ⟨g1.ok, g1.app, g1.top, g1.big, fun h => by omega⟩
  | @list cur st he =>
    intro hn _
    refine leaf_gr _ rfl hn (Or.inr (Or.inl rfl)) rfl rfl ?_ (by omega)
    have := items_len t (t.size - (takeS t 94 (nextS t st.1).2).2.1) (takeS t 94 (nextS t st.1).2).2 []
    show (itemsS t (takeS t 94 (nextS t st.1).2).2 []).1.length ≤ 1000
    unfold itemsS
    simp only [List.length_nil] at this
    omega
  | plain h1 h2 =>
    intro hn _
    unfold plainS bytesS
    repeat' split
    all_goals first
      | exact leaf_gr _ rfl hn (Or.inr (Or.inl rfl)) rfl rfl (by show (1 : Nat) ≤ 1000; omega) (by omega)
      | exact leaf_gr _ rfl hn (Or.inr (Or.inr (Or.inl rfl))) rfl rfl (Nat.zero_le _) (by omega)
      | exact leaf_gr _ rfl hn (Or.inr (Or.inr (Or.inr rfl))) rfl rfl (Nat.zero_le _) (by omega)
  | @or cur st r1 r he _ _ a b =>
    intro hn hc
    have hc := hc (by omega)
    have g0 := a hn (fun h => by omega)
    have g1 : Gr 1 0 st r1 := ⟨g0.ok, g0.app, g0.top, g0.big, fun h => by omega⟩
    obtain ⟨m1, e1⟩ := g1.app
    have hl : st.2.length ≤ r1.2.2.length := by rw [e1]; simp
    have ht1 := g1.top
    obtain ⟨j1, j2, j3, j4⟩ := join_ok (kind := 5) (s := r1.2.1) (Or.inr rfl) g1.ok (cur := cur) (j := r1.1) (by omega) (by omega)
    have g2 := b j1 (fun _ => j2)
    refine g1.comp g2 rfl (fun i h1 h2 => ?_) j4 (by omega) (fun _ => ?_)
    · simp only [joinS, addS, List.length_append, List.length_singleton] at h2
      obtain rfl : i = r1.2.2.length := by omega
      exact Int.le_refl _
    · have e : sizeAt r1.2.2 cur = sizeAt st.2 cur := by rw [e1, sizeN_app (by omega)]
      rw [← e]; exact j3
  | orEnd he => intro hn hc; exact Gr.refl hn (hc (by omega))
  | @and cur st r1 r he _ _ a b =>
    intro hn hc
    have hc := hc (by omega)
    have g1 := a hn (fun h => by omega)
    obtain ⟨m1, e1⟩ := g1.app
    have hl : st.2.length ≤ r1.2.2.length := by rw [e1]; simp
    have ht1 := g1.top
    obtain ⟨j1, j2, j3, j4⟩ := join_ok (kind := 4) (s := r1.2.1) (Or.inl rfl) g1.ok (cur := cur) (j := r1.1) (by omega) (by omega)
    have g2 := b j1 (fun _ => j2)
    refine g1.comp g2 rfl (fun i h1 h2 => ?_) j4 (by omega) (fun _ => ?_)
    · simp only [joinS, addS, List.length_append, List.length_singleton] at h2
      obtain rfl : i = r1.2.2.length := by omega
      exact Int.le_refl _
    · have e : sizeAt r1.2.2 cur = sizeAt st.2 cur := by rw [e1, sizeN_app (by omega)]
      rw [← e]; exact j3
  | andEnd he => intro hn hc; exact Gr.refl hn (hc (by omega))
  | @rep cur st r he _ a =>
    intro hn hc
    have hc := hc (by omega)
    obtain ⟨j1, j2, j3⟩ := again_ok (cur := cur) (s := (repeatS t st.1).2) (lm := (repeatS t st.1).1) hn (by omega) (repeat_bd t st.1) (repeat_le t st.1)
    have g2 := a j1 (fun _ => j2)
    refine (Gr.refl (tag := 6) hn hc).comp g2 rfl (fun i h1 h2 => ?_) j3 (by omega) (fun _ => j3)
    simp only [againS, addS, List.length_append, List.length_singleton] at h2
    simp only [] at h1
    obtain rfl : i = st.2.length := by omega
    exact Int.le_refl _
  | repEnd he => intro hn hc; exact Gr.refl hn (hc (by omega))

end Go.Proofs.Ytjhmkkhnnijigaa
