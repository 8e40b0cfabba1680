/- Package packed: a pair counted from a place on; which pair is taken first. -/
import Derived.Test.YtgifhgnccmnbiaaGPlaces
set_option linter.unusedVariables false
set_option linter.unusedSimpArgs false
namespace Go.Proofs.Ytgifhgnccmnbiaa
open Go.RowKit Go.IntWalk

theorem metL_off {a b x : Nat} (h : x ≠ a) (r : List Nat) : metL a b (x :: r) = metL a b r := by
  cases r with
  | nil => rw [metL_one, metL_nil]
  | cons y r => rw [metL_two, if_neg (fun hc => h hc.1)]
theorem metL_skip (a b : Nat) (l : List Nat) (j : Nat) : ∀ (d i : Nat), i + d = j → (∀ p, i ≤ p → p < j → l.getD p 0 ≠ a) → metL a b (l.drop i) = metL a b (l.drop j)
  | 0, i, h, _ => by rw [show i = j by omega]
  | d + 1, i, h, hn => by
    rw [← metL_skip a b l j d (i + 1) (by omega) (fun p h1 h2 => hn p (by omega) h2)]
    by_cases hl : i < l.length
    · have e : l.drop i = l[i] :: l.drop (i + 1) := List.drop_eq_getElem_cons hl
      have g1 : l.getD i 0 = l[i] := by simp [List.getD, hl]
      rw [e, metL_off (by rw [← g1]; exact hn i (Nat.le_refl _) (by omega))]
    · rw [List.drop_eq_nil_of_le (by omega), List.drop_eq_nil_of_le (by omega)]
theorem nextF_none (l : List Nat) (s : Nat) : ∀ d i, i + d = l.length → ∀ p, i ≤ p → p < nextF l s i → l.getD p 0 ≠ s
  | 0, i, h, p, h1, h2 => by
    have : i = l.length := by omega
    rw [this, nextF_end] at h2; omega
  | d + 1, i, h, p, h1, h2 => by
    rw [nextF_step l s i (by omega)] at h2
    by_cases hc : l.getD i 0 = s
    · rw [if_pos hc] at h2; omega
    · rw [if_neg hc] at h2
      by_cases hp : p = i
      · rw [hp]; exact hc
      · exact nextF_none l s d (i + 1) (by omega) p (by omega) h2
theorem nextF_hit (l : List Nat) (s : Nat) : ∀ d i, i + d = l.length → nextF l s i < l.length → l.getD (nextF l s i) 0 = s
  | 0, i, h, h2 => by
    have : i = l.length := by omega
    rw [this, nextF_end] at h2; omega
  | d + 1, i, h, h2 => by
    rw [nextF_step l s i (by omega)] at h2 ⊢
    by_cases hc : l.getD i 0 = s
    · rw [if_pos hc]; exact hc
    · rw [if_neg hc] at h2 ⊢
      exact nextF_hit l s d (i + 1) (by omega) h2
theorem nextF_ge (l : List Nat) (s i : Nat) : i ≤ nextF l s i := by unfold nextF; omega

/-- At a place with the first one, so many counted, free from there on. -/
structure CntI (l : List Nat) (a b tot at' free count : Nat) : Prop where
  le : at' ≤ l.length
  hit : at' < l.length → l.getD at' 0 = a
  fr : free ≤ l.length + 1
  sum : count + metL a b (l.drop (max at' free)) = tot
theorem CntI.fin {l : List Nat} {a b tot i free count : Nat} (h : CntI l a b tot i free count) (he : l.length ≤ i + 1) : count = tot := by
  have := h.sum
  have h2 : metL a b (l.drop (max i free)) = 0 := by
    have hl : (l.drop (max i free)).length ≤ 1 := by rw [List.length_drop]; omega
    cases hd : l.drop (max i free) with
    | nil => exact metL_nil _ _
    | cons x r =>
      cases r with
      | nil => exact metL_one _ _ _
      | cons y r => rw [hd] at hl; simp at hl
  omega
theorem CntI.next {l : List Nat} {a b i : Nat} (f : Nat) (hi : i < l.length) (hf : i + 1 ≤ f) : metL a b (l.drop (max (nextF l a (i + 1)) f)) = metL a b (l.drop f) := by
  by_cases hc : nextF l a (i + 1) ≤ f
  · rw [show max (nextF l a (i + 1)) f = f by omega]
  · rw [show max (nextF l a (i + 1)) f = nextF l a (i + 1) by omega]
    exact (metL_skip a b l _ (nextF l a (i + 1) - f) f (by omega) (fun p h1 h2 => nextF_none l a (l.length - (i + 1)) (i + 1) (by omega) p (by omega) h2)).symm
theorem CntI.hit' {l : List Nat} {a b tot i free count : Nat} (h : CntI l a b tot i free count) (hi : i + 1 < l.length) (h1 : free ≤ i) (h2 : l.getD (i + 1) 0 = b) : CntI l a b tot (nextF l a (i + 1)) (i + 2) (count + 1) := by
  refine ⟨nextF_le l a (l.length - (i + 1)) (i + 1) (by omega), nextF_hit l a (l.length - (i + 1)) (i + 1) (by omega), by omega, ?_⟩
  rw [CntI.next (i + 2) (by omega) (by omega), ← h.sum, show max i free = i by omega]
  have e : l.drop i = l[i] :: l[i + 1] :: l.drop (i + 2) := by rw [List.drop_eq_getElem_cons (by omega), List.drop_eq_getElem_cons hi]
  have g1 : l.getD i 0 = l[i] := by simp [List.getD, (by omega : i < l.length)]
  have g2 : l.getD (i + 1) 0 = l[i + 1] := by simp [List.getD, hi]
  rw [e, metL_two, if_pos ⟨by rw [← g1]; exact h.hit (by omega), by rw [← g2]; exact h2⟩]
  omega
theorem CntI.miss {l : List Nat} {a b tot i free count : Nat} (h : CntI l a b tot i free count) (hi : i + 1 < l.length) (h1 : ¬ (free ≤ i ∧ l.getD (i + 1) 0 = b)) : CntI l a b tot (nextF l a (i + 1)) free count := by
  refine ⟨nextF_le l a (l.length - (i + 1)) (i + 1) (by omega), nextF_hit l a (l.length - (i + 1)) (i + 1) (by omega), h.fr, ?_⟩
  rw [← h.sum]
  by_cases hf : free ≤ i
  · have hn := nextF_ge l a (i + 1)
    have e0 := CntI.next (l := l) (a := a) (b := b) (i := i) (i + 1) (by omega) (Nat.le_refl _)
    rw [show max (nextF l a (i + 1)) free = max (nextF l a (i + 1)) (i + 1) by omega, e0, show max i free = i by omega]
    have e : l.drop i = l[i] :: l[i + 1] :: l.drop (i + 2) := by rw [List.drop_eq_getElem_cons (by omega), List.drop_eq_getElem_cons hi]
    have e2 : l.drop (i + 1) = l[i + 1] :: l.drop (i + 2) := List.drop_eq_getElem_cons hi
    have g2 : l.getD (i + 1) 0 = l[i + 1] := by simp [List.getD, hi]
    rw [e, e2, metL_two, if_neg (fun hc => h1 ⟨hf, by rw [g2]; exact hc.2⟩)]
  · rw [CntI.next free (by omega) (by omega), show max i free = free by omega]

theorem place_sym {w : World} {g : Nat} {l : List Nat} (h : Blk w g (placeCells l 0) 202) {i : Nat} (hi : i < l.length) : w.cell? ⟨g, i * 2, none⟩ = some (.int .i64 ((l.getD i 0 : Nat) : Int)) := by
  rw [h.cell]
  unfold placeCells
  rw [rowF_get _ (by omega)]
  unfold placeCell
  rw [if_neg (by omega), if_pos (by omega), show i * 2 / 2 = i by omega]
theorem place_nx {w : World} {g : Nat} {l : List Nat} (h : Blk w g (placeCells l 0) 202) {i : Nat} (hi : i < l.length) : w.cell? ⟨g, i * 2 + 1, none⟩ = some (.int .i64 ((nextF l (l.getD i 0) (i + 1) : Nat) : Int)) := by
  rw [h.cell]
  unfold placeCells
  rw [rowF_get _ (by omega)]
  unfold placeCell
  rw [if_neg (by omega), if_neg (by omega), show (i * 2 + 1) / 2 = i by omega]

set_option maxHeartbeats 4000000 in
set_option maxRecDepth 100000 in
theorem countFrom_any {l : List Nat} {g fr b : Nat} (w : World) (hb : Blk w g (placeCells l 0) 202) (hl : l.length ≤ 600) (hf : fr < l.length) :
    Calls Try.prog 122 #[.slice (some ⟨g, 0, none⟩) l.length l.length, .int .i64 (fr : Int), .int .i64 (b : Int)] w fun e w' => e = .returned (.int .i64 ((metL (l.getD fr 0) b (l.drop fr) : Nat) : Int)) ∧ w' = w := by
  have h0 : Hid (CntI l (l.getD fr 0) b (metL (l.getD fr 0) b (l.drop fr)) fr fr 0) := ⟨by omega, fun _ => rfl, by omega, by simp⟩
  generalize metL (l.getD fr 0) b (l.drop fr) = tot at *
  generalize l.getD fr 0 = a at *
  have hbH : Hid (Blk _ _ _ _) := hb
  clear hb
  go_enter Try.func122, Try.ntmps122
  go_wp2
  go_loopw [7, 8, 9] (fun cv fv iv wr => ∃ c f i : Nat, cv = .int .i64 (c : Int) ∧ fv = .int .i64 (f : Int) ∧ iv = .int .i64 (i : Int) ∧ wr = w ∧ c ≤ i ∧ CntI l a b tot i f c) (fun _ _ iv _ => ((l.length : Int) - intOf iv).toNat)
  case atStart => exact ⟨0, fr, fr, rfl, rfl, rfl, rfl, Nat.zero_le _, h0.out⟩
  case round =>
    obtain ⟨c, f, i, rfl, rfl, rfl, rfl, hci, hI⟩ := hrel
    clear h0
    have hile := hI.le
    by_cases hlt : (i : Int) + 1 < (l.length : Int)
    · have hi : i + 1 < l.length := by omega
      have c1 := place_sym hbH.out hi
      have c2 := place_nx hbH.out (show i < l.length by omega)
      rw [hI.hit (by omega)] at c2
      have hn1 := nextF_ge l a (i + 1)
      have hn2 := nextF_le l a (l.length - (i + 1)) (i + 1) (by omega)
      have hfr := hI.fr
      have hit := fun h1 h2 => hI.hit' hi h1 h2
      have miss := fun h1 => hI.miss hi h1
      clear hI
      generalize nextF l a (i + 1) = F at *
      generalize l.getD (i + 1) 0 = s at *
      by_cases hfi : (f : Int) ≤ (i : Int)
      · by_cases hsb : (s : Int) = (b : Int)
        · have H : Hid (CntI l a b tot F (i + 2) (c + 1)) := hit (by omega) (by omega)
          have hsb' : s = b := by omega
          subst hsb'
          clear hit miss hsb
          go_wp2
          refine ⟨⟨c + 1, i + 2, F, ?_, ?_, ?_, ?_, by omega, H.out⟩, ?_⟩ <;> first | rfl | trivial | go_num | (simp only [intOf]; omega)
        · have H : Hid (CntI l a b tot F f c) := miss (by omega)
          clear hit miss
          go_wp2
          refine ⟨⟨c, f, F, ?_, ?_, ?_, ?_, by omega, H.out⟩, ?_⟩ <;> first | rfl | trivial | go_num | (simp only [intOf]; omega)
      · have H : Hid (CntI l a b tot F f c) := miss (by omega)
        clear hit miss
        go_wp2
        refine ⟨⟨c, f, F, ?_, ?_, ?_, ?_, by omega, H.out⟩, ?_⟩ <;> first | rfl | trivial | go_num | (simp only [intOf]; omega)
    · have e := hI.fin (by omega)
      subst e
      clear hI
      generalize l.length = n at *
      go_wp2
      go_ret
      exact ⟨rfl, rfl⟩

def PV (p : Cand) : Value := .agg #[.int .i64 (p.a : Int), .int .i64 (p.b : Int), .int .i64 (p.n : Int)]
set_option maxHeartbeats 4000000 in
set_option maxRecDepth 100000 in
theorem taken_any (p q : Cand) (w : World) : Calls Try.prog 123 #[PV p, PV q] w fun e w' => e = .returned (.bool (decide (better p q))) ∧ Kept [] w w' := by
  obtain ⟨n, a, b⟩ := p
  obtain ⟨m, c, d⟩ := q
  unfold PV
  simp only []
  have hk : Hid (∀ o1 o2, Kept [] w ((w.alloc o1).alloc o2)) := fun o1 o2 => ((Kept.refl [] w).alloc o1).alloc o2
  by_cases h1 : n = m
  · subst h1
    by_cases h2 : a = c
    · subst h2
      have e : decide (better ⟨n, a, b⟩ ⟨n, a, d⟩) = decide (b < d) := decide_eq_decide.2 (by unfold better; constructor <;> intro h <;> dsimp only at * <;> omega)
      rw [e]
      clear e
      go_enter Try.func123, Try.ntmps123
      go_wp2
      go_ret
      exact ⟨rfl, hk.out _ _⟩
    · have e : decide (better ⟨n, a, b⟩ ⟨n, c, d⟩) = decide (a < c) := decide_eq_decide.2 (by unfold better; constructor <;> intro h <;> dsimp only at * <;> omega)
      rw [e]
      have h3 : ¬ (a : Int) = (c : Int) := by omega
      clear e h2
      go_enter Try.func123, Try.ntmps123
      go_wp2
      go_ret
      exact ⟨rfl, hk.out _ _⟩
  · have e : decide (better ⟨n, a, b⟩ ⟨m, c, d⟩) = decide (m < n) := decide_eq_decide.2 (by unfold better; constructor <;> intro h <;> dsimp only at * <;> omega)
    rw [e]
    have h3 : ¬ (n : Int) = (m : Int) := by omega
    clear e h1
    go_enter Try.func123, Try.ntmps123
    go_wp2
    go_ret
    exact ⟨rfl, hk.out _ _⟩

end Go.Proofs.Ytgifhgnccmnbiaa
