/- Files of rules: both sides take the same files, and tell the same of them. No Go in it. -/
import Derived.Test.YtgifhgnccmnbiaaShSame
set_option linter.unusedVariables false
set_option linter.unusedSimpArgs false
namespace Go.Proofs.Ytgifhgnccmnbiaa
open Go.RowKit Go.IntWalk

theorem prI_place {f : ByteArray} {q : Nat} (h : 0 ≤ prI f q) : q + 2 ≤ f.size := by
  by_cases h1 : q + 2 ≤ f.size
  · exact h1
  · have := prI_neg.2 h1; omega
theorem GOk.okRule {f : ByteArray} (h : GOk f) {k : Nat} (hk : k < bt f 2) : OkRule f k := by
  obtain ⟨a1, a2⟩ := h.a hk
  obtain ⟨b1, b2⟩ := h.b hk
  exact ⟨⟨prI_place (by omega), by omega⟩, ⟨prI_place (by omega), by omega⟩⟩
theorem GOk.okSym {f : ByteArray} (h : GOk f) {j : Nat} (hj : j < gN f) : Ok2 f (255 + bt f 2) (5 + 4 * bt f 2 + 2 * j) := by
  obtain ⟨a1, a2⟩ := h.s hj
  exact ⟨prI_place (by omega), by omega⟩
theorem gTop_range (f : ByteArray) : ∀ j, gTop f j = (List.range j).map (fun i => (prI f (5 + 4 * bt f 2 + 2 * i)).toNat)
  | 0 => rfl
  | j + 1 => by
    show gTop f j ++ [gS f j] = _
    rw [gTop_range f j, List.range_succ, List.map_append]; rfl
/-- What the code's reader has, where the document's takes the file. -/
theorem GOk.read {f : ByteArray} (h : GOk f) : sgR f = (bt f 2, (3, false)) ∧ sgG f = (gRu f (bt f 2), (3 + 4 * bt f 2, false)) ∧ sgN f = (gN f, (5 + 4 * bt f 2, false)) ∧
    (sgS f).2 = (5 + 4 * bt f 2 + 2 * gN f, false) ∧ (sgS f).1 = gTop f (gN f) := by
  have e1 := count1_of (f := f) (by have := h.five; omega) h.r
  have e2 : sgG f = (gRu f (bt f 2), (3 + 4 * bt f 2, false)) := by
    unfold sgG; rw [e1]; exact ru_of _ (fun k hk => h.okRule hk)
  obtain ⟨n1, n2, n3⟩ := h.n
  have e3 : sgN f = (gN f, (5 + 4 * bt f 2, false)) := by
    unfold sgN; rw [e2]
    have := count2_of (f := f) (m := 1000) (q := 3 + 4 * bt f 2) ⟨prI_place (by omega), by omega⟩
    rw [this, show 3 + 4 * bt f 2 + 2 = 5 + 4 * bt f 2 by omega]; rfl
  obtain ⟨s1, s2⟩ := sy_of (f := f) (m := 255 + bt f 2) (q := 5 + 4 * bt f 2) (gN f) (fun k hk => h.okSym hk)
  refine ⟨e1, e2, e3, ?_, ?_⟩
  · unfold sgS; rw [e1, e3]; exact s1
  · unfold sgS; rw [e1, e3, gTop_range]; exact s2
theorem GOk.ok {f : ByteArray} (h : GOk f) : sgOk f = true := by
  obtain ⟨e1, e2, e3, e4, e5⟩ := h.read
  obtain ⟨n1, n2, n3⟩ := h.n
  unfold sgOk
  rw [e4]
  simp only [Bool.not_false, Bool.true_and, decide_eq_true_eq]
  omega
theorem ok_GOk {f : ByteArray} (hg : isSG f) (h4 : f.size ≤ 4000) (h : sgOk f = true) : GOk f := by
  have nG : ∀ b, b = true → sgOk f = false → False := fun b _ h' => by rw [h] at h'; cases h'
  have b1 : (sgR f).2.2 = false := by
    cases hx : (sgR f).2.2 with
    | false => rfl
    | true => exact (nG _ hx (sgOk_g (i := 0) (Nat.zero_le _) hx)).elim
  obtain ⟨r1, r2⟩ := count1_good b1
  have e1 := count1_of r1 r2
  have b2 : (sgG f).2.2 = false := by
    cases hx : (sgG f).2.2 with
    | false => rfl
    | true => exact (nG _ hx (sgOk_G hx)).elim
  have hR : ∀ k, k < bt f 2 → OkRule f k := by
    unfold sgG at b2; rw [e1] at b2; exact ru_good _ b2
  have e2 : sgG f = (gRu f (bt f 2), (3 + 4 * bt f 2, false)) := by
    unfold sgG; rw [e1]; exact ru_of _ hR
  have b3 : (sgN f).2.2 = false := by
    cases hx : (sgN f).2.2 with
    | false => rfl
    | true => exact (nG _ hx (sgOk_N hx)).elim
  have hN : Ok2 f 1000 (3 + 4 * bt f 2) := by
    unfold sgN at b3; rw [e2] at b3; exact count2_good b3
  have e3 : sgN f = (gN f, (5 + 4 * bt f 2, false)) := by
    unfold sgN; rw [e2]
    rw [count2_of hN, show 3 + 4 * bt f 2 + 2 = 5 + 4 * bt f 2 by omega]; rfl
  have b4 : (sgS f).2.2 = false := by
    cases hx : (sgS f).2.2 with
    | false => rfl
    | true => exact (nG _ hx (sgOk_S hx)).elim
  have hS : ∀ k, k < gN f → Ok2 f (255 + bt f 2) (5 + 4 * bt f 2 + 2 * k) := by
    unfold sgS at b4; rw [e1, e3] at b4; exact sy_good _ b4
  have e4 : (sgS f).2 = (5 + 4 * bt f 2 + 2 * gN f, false) := by
    unfold sgS; rw [e1, e3]; exact (sy_of _ hS).1
  have hsz : f.size ≤ 5 + 4 * bt f 2 + 2 * gN f := by
    unfold sgOk at h
    rw [e4] at h
    simpa using h
  have hn0 : 0 ≤ prI f (3 + 4 * bt f 2) := by rw [prI_of hN.1]; omega
  have hnn : prI f (3 + 4 * bt f 2) = (gN f : Int) := by unfold gN; omega
  have hsz2 : 5 + 4 * bt f 2 + 2 * gN f ≤ f.size := by
    by_cases hn : gN f = 0
    · have := hN.1; omega
    · have := (hS (gN f - 1) (by omega)).1; omega
  refine ⟨by have := hN.1; omega, h4, hg, r2, ?_, hn0, hN.2, by omega, ?_⟩
  · intro k hk
    obtain ⟨j, hj | hj⟩ : ∃ j, k = 2 * j ∨ k = 2 * j + 1 := ⟨k / 2, by omega⟩
    · subst hj
      obtain ⟨a1, a2⟩ := (hR j (by omega)).1
      rw [show 3 + 2 * (2 * j) = 3 + 4 * j by omega, show 2 * j / 2 = j by omega]
      refine ⟨by rw [prI_of a1]; omega, by omega⟩
    · subst hj
      obtain ⟨a1, a2⟩ := (hR j (by omega)).2
      rw [show 3 + 2 * (2 * j + 1) = 5 + 4 * j by omega, show (2 * j + 1) / 2 = j by omega]
      refine ⟨by rw [prI_of a1]; omega, by omega⟩
  · intro k hk
    have := (hS k (by omega)).2
    omega

/-- The texts of the rules. -/
def gTx (f : ByteArray) : Nat → List (List Nat)
  | 0 => []
  | k + 1 => gTx f k ++ [symT (gTx f k) (gA f k) ++ symT (gTx f k) (gB f k)]
theorem gTx_len (f : ByteArray) : ∀ k, (gTx f k).length = k
  | 0 => rfl
  | k + 1 => by show (gTx f k ++ _).length = _; rw [List.length_append, gTx_len f k]; rfl
theorem GOk.sound {f : ByteArray} (h : GOk f) : ∀ k, k ≤ bt f 2 → Sound (gRu f k) (gTx f k)
  | 0, _ => Sound.nil
  | k + 1, hk => by
    have ih := h.sound k (by omega)
    exact ih.push (by rw [gRu_len]; exact (h.a (by omega)).2) (by rw [gRu_len]; exact (h.b (by omega)).2)
theorem size_tx {T : List (List Nat)} {s : Nat} (hs : s < 256 + T.length) : sizeP (T.map piOf) s = piOf (symT T s) := by
  unfold sizeP symT
  by_cases h1 : s = 10
  · subst h1; rw [if_pos rfl, if_pos (by omega)]; exact size_one 10
  · rw [if_neg h1]
    by_cases h2 : s < 256
    · rw [if_pos h2, if_pos h2]
      have := size_one s
      rwa [if_neg h1] at this
    · rw [if_neg h2, if_neg h2]
      simp only [List.getD]
      rw [List.getElem?_map, List.getElem?_eq_getElem (by omega)]
      rfl
theorem GOk.ps {f : ByteArray} (h : GOk f) : ∀ k, k ≤ bt f 2 → gPs f k = (gTx f k).map piOf
  | 0, _ => rfl
  | k + 1, hk => by
    have ih := h.ps k (by omega)
    show gPs f k ++ [_] = (gTx f k ++ [_]).map piOf
    rw [ih, size_tx (by rw [gTx_len]; exact (h.a (by omega)).2), size_tx (by rw [gTx_len]; exact (h.b (by omega)).2), joined_piOf, List.map_append]
    rfl
theorem whole_tx {T : List (List Nat)} : ∀ l : List Nat, (∀ s, s ∈ l → s < 256 + T.length) → ∀ a, l.foldl (fun p s => joinedP p (sizeP (T.map piOf) s)) (piOf a) = piOf (a ++ l.flatMap (symT T))
  | [], _, a => by simp
  | s :: l, h, a => by
    rw [List.foldl_cons, size_tx (h s (by simp)), joined_piOf, whole_tx l (fun x hx => h x (by simp [hx]))]
    simp
theorem whole_pt {rs : List RU} {T : List (List Nat)} (hS : Sound rs T) : ∀ l : List Nat, (∀ s, s ∈ l → s < 256 + T.length) → ∀ a, l.foldl (fun p s => joinP p (partAt rs s)) (ptOf a) = ptOf (a ++ l.flatMap (symT T))
  | [], _, a => by simp
  | s :: l, h, a => by
    rw [List.foldl_cons, hS.part (by rw [hS.len]; exact h s (by simp)), join_ptOf, whole_pt hS l (fun x hx => h x (by simp [hx]))]
    simp
theorem GOk.whole {f : ByteArray} (h : GOk f) : ∃ t, (sgT f).whole = ptOf t ∧ gAll f = piOf t := by
  obtain ⟨e1, e2, e3, e4, e5⟩ := h.read
  have hb : ∀ s, s ∈ gTop f (gN f) → s < 256 + (gTx f (bt f 2)).length := fun s hs => by rw [gTx_len]; exact h.top _ (Nat.le_refl _) s hs
  refine ⟨(gTop f (gN f)).flatMap (symT (gTx f (bt f 2))), ?_, ?_⟩
  · show wholeP (sgG f).1 (sgS f).1 = _
    rw [e2, e5]
    exact whole_pt (h.sound _ (Nat.le_refl _)) _ hb []
  · unfold gAll wholeR
    rw [h.ps _ (Nat.le_refl _)]
    exact whole_tx _ hb []
theorem long_len (t : List Nat) : (ptOf t).len = (piOf t).long := ptOf_len t

end Go.Proofs.Ytgifhgnccmnbiaa
