/- The document's count of a pair. -/
import Derived.Test.YtgifhgnccmnbiaaGWrite
set_option linter.unusedVariables false
set_option linter.unusedSimpArgs false
namespace Go.Proofs.Ytgifhgnccmnbiaa
open Go.RowKit Go.IntWalk

theorem metL_hit {a b : Nat} {l : List Nat} {i : Nat} (hi : i + 1 < l.length) (h1 : l.getD i 0 = a) (h2 : l.getD (i + 1) 0 = b) : metL a b (l.drop i) = metL a b (l.drop (i + 2)) + 1 := by
  have e : l.drop i = l[i] :: l[i + 1] :: l.drop (i + 2) := by rw [List.drop_eq_getElem_cons (by omega), List.drop_eq_getElem_cons hi]
  have g1 : l.getD i 0 = l[i] := by simp [List.getD, (by omega : i < l.length)]
  have g2 : l.getD (i + 1) 0 = l[i + 1] := by simp [List.getD, hi]
  rw [e, metL_two, if_pos ⟨by rw [← g1]; exact h1, by rw [← g2]; exact h2⟩]
theorem metL_miss {a b : Nat} {l : List Nat} {i : Nat} (hi : i + 1 < l.length) (h : ¬ (l.getD i 0 = a ∧ l.getD (i + 1) 0 = b)) : metL a b (l.drop i) = metL a b (l.drop (i + 1)) := by
  have e : l.drop i = l[i] :: l[i + 1] :: l.drop (i + 2) := by rw [List.drop_eq_getElem_cons (by omega), List.drop_eq_getElem_cons hi]
  have e2 : l.drop (i + 1) = l[i + 1] :: l.drop (i + 2) := List.drop_eq_getElem_cons hi
  have g1 : l.getD i 0 = l[i] := by simp [List.getD, (by omega : i < l.length)]
  have g2 : l.getD (i + 1) 0 = l[i + 1] := by simp [List.getD, hi]
  rw [e, e2, metL_two, if_neg (fun hc => h ⟨by rw [g1]; exact hc.1, by rw [g2]; exact hc.2⟩)]
theorem metL_end {a b : Nat} {l : List Nat} {i : Nat} (hi : l.length ≤ i + 1) : metL a b (l.drop i) = 0 := by
  have hl : (l.drop i).length ≤ 1 := by rw [List.length_drop]; omega
  cases hd : l.drop i with
  | nil => exact metL_nil _ _
  | cons x r =>
    cases r with
    | nil => exact metL_one _ _ _
    | cons y r => rw [hd] at hl; simp at hl

set_option maxHeartbeats 4000000 in
set_option maxRecDepth 100000 in
theorem met_any {l : List Nat} {v : Value} {base : Nat} (w : World) (hrow : w.ownsRow base 3 1 v l.length (symCells l)) (hl : l.length ≤ 600) (a b : Nat) :
    Calls Try.prog 58 #[v, .int .i64 (a : Int), .int .i64 (b : Int)] w fun e w' => e = .returned (.int .i64 ((metL a b l : Nat) : Int)) ∧ w' = w := by
  obtain ⟨va, vk, vc, rfl⟩ := own_shape hrow
  have hvk : vk = l.length := by
    rcases hrow.2 with ⟨h1, h2⟩ | ⟨g, cap, _, h1, _⟩
    · simp at h1; omega
    · simp at h1; omega
  subst hvk
  have hrowH : Hid (World.ownsRow _ _ _ _ _ _ _) := hrow
  clear hrow
  have h0 : Hid (0 + metL a b (l.drop 0) = metL a b l) := by show 0 + metL a b (l.drop 0) = _; rw [Nat.zero_add]; rfl
  obtain ⟨tot, htot⟩ : ∃ tot, metL a b l = tot := ⟨_, rfl⟩
  rw [htot] at h0 ⊢
  clear htot
  go_enter Try.func58, Try.ntmps58
  go_wp2_with fail
  go_loopw [7, 8] (fun cv iv wr => ∃ c i : Nat, cv = .int .i64 (c : Int) ∧ iv = .int .i64 (i : Int) ∧ wr = w ∧ i ≤ l.length ∧ c ≤ i ∧ c + metL a b (l.drop i) = tot) (fun _ iv _ => ((l.length : Int) - intOf iv).toNat)
  case atStart => exact ⟨0, 0, rfl, rfl, rfl, Nat.zero_le _, Nat.le_refl _, h0.out⟩
  case round =>
    obtain ⟨c, i, rfl, rfl, rfl, hi, hci, hsum⟩ := hrel
    clear h0
    by_cases hlt : (i : Int) + 1 < (l.length : Int)
    · have hi1 : i + 1 < l.length := by omega
      obtain ⟨rg, rcap, hv⟩ := own_form hrowH.out (by omega)
      simp only [Value.slice.injEq, true_and] at hv
      obtain ⟨rfl, rfl⟩ := hv
      obtain ⟨x, hx⟩ : ∃ x, l.getD i 0 = x := ⟨_, rfl⟩
      obtain ⟨y, hy⟩ : ∃ y, l.getD (i + 1) 0 = y := ⟨_, rfl⟩
      have c1 : wr.cell? ⟨rg, i, none⟩ = some (.int .i64 (x : Int)) := by
        have := hrowH.out.cells (g := rg) rfl i _ (symCells_get l i (by omega))
        rwa [ptr_add, hx] at this
      have c2 : wr.cell? ⟨rg, i + 1, none⟩ = some (.int .i64 (y : Int)) := by
        have := hrowH.out.cells (g := rg) rfl (i + 1) _ (symCells_get l (i + 1) hi1)
        rwa [ptr_add, hy] at this
      by_cases hxa : x = a
      · subst hxa
        by_cases hyb : y = b
        · subst hyb
          have hs : Hid (c + 1 + metL x y (l.drop (i + 2)) = tot) := by
            show _ = _
            have := metL_hit hi1 hx hy
            omega
          clear hx hy hsum
          go_wp2
          refine ⟨⟨c + 1, i + 2, ?_, ?_, ?_, by omega, by omega, hs.out⟩, ?_⟩ <;> first | rfl | trivial | go_num | (simp only [intOf]; omega)
        · have hs : Hid (c + metL x b (l.drop (i + 1)) = tot) := by
            show _ = _
            rw [← metL_miss hi1 (fun hc => hyb (hy ▸ hc.2))]; exact hsum
          have e2 : ¬ (y : Int) = (b : Int) := by omega
          clear hx hy hsum hyb
          go_wp2
          refine ⟨⟨c, i + 1, ?_, ?_, ?_, by omega, by omega, hs.out⟩, ?_⟩ <;> first | rfl | trivial | go_num | (simp only [intOf]; omega)
      · have hs : Hid (c + metL a b (l.drop (i + 1)) = tot) := by
          show _ = _
          rw [← metL_miss hi1 (fun hc => hxa (hx ▸ hc.1))]; exact hsum
        have e2 : ¬ (x : Int) = (a : Int) := by omega
        clear hx hy hsum hxa
        go_wp2
        refine ⟨⟨c, i + 1, ?_, ?_, ?_, by omega, by omega, hs.out⟩, ?_⟩ <;> first | rfl | trivial | go_num | (simp only [intOf]; omega)
    · have e : c = tot := by rw [metL_end (by omega)] at hsum; omega
      subst e
      clear hsum
      go_wp2
      go_ret
      exact ⟨rfl, rfl⟩

end Go.Proofs.Ytgifhgnccmnbiaa
