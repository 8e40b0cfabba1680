/- Package packed: a pair counted from a place on; which pair is taken first. -/
import Derived.Test.YtgifhgnccmnbiabGreatDoorG22
set_option linter.unusedVariables false
set_option linter.unusedSimpArgs false
namespace Go.Proofs.YtgifhgnccmnbiabGreatDoor
open Go.RowKit Go.IntWalk

theorem metL_off {a b x : Nat} (h : x ≠ a) (r : List Nat) : metL a b (x :: r) = metL a b r := by
  cases r with
  | nil => rw [metL_one, metL_nil]
  | cons y r => rw [metL_two, if_neg (fun hc => h hc.1)]
theorem metL_skip (a b : Nat) (l : List Nat) (j : Nat) : ∀ (d i : Nat), i + d = j → (∀ p, i ≤ p → p < j → l.getD p 0 ≠ a) → metL a b (l.drop i) = metL a b (l.drop j)
  | 0, i, h, _ => by rw [show i = j by omega]
  | d + 1, i, h, hn => by
    rw [← metL_skip a b l j d (i + 1) (by omega) (fun p h1 h2 => hn p (by omega) h2)]
    by_cases hl : i < l.length
    · have e : l.drop i = l[i] :: l.drop (i + 1) := List.drop_eq_getElem_cons hl
      have g1 : l.getD i 0 = l[i] := by simp [List.getD, hl]
      rw [e, metL_off (by rw [← g1]; exact hn i (Nat.le_refl _) (by omega))]
    · rw [List.drop_eq_nil_of_le (by omega), List.drop_eq_nil_of_le (by omega)]
theorem nextF_none (l : List Nat) (s : Nat) : ∀ d i, i + d = l.length → ∀ p, i ≤ p → p < nextF l s i → l.getD p 0 ≠ s
  | 0, i, h, p, h1, h2 => by
    have : i = l.length := by omega
    rw [this, nextF_end] at h2; omega
  | d + 1, i, h, p, h1, h2 => by
    rw [nextF_step l s i (by omega)] at h2
    by_cases hc : l.getD i 0 = s
    · rw [if_pos hc] at h2; omega
    · rw [if_neg hc] at h2
      by_cases hp : p = i
      · rw [hp]; exact hc
      · exact nextF_none l s d (i + 1) (by omega) p (by omega) h2
theorem nextF_hit (l : List Nat) (s : Nat) : ∀ d i, i + d = l.length → nextF l s i < l.length → l.getD (nextF l s i) 0 = s
  | 0, i, h, h2 => by
    have : i = l.length := by omega
    rw [this, nextF_end] at h2; omega
  | d + 1, i, h, h2 => by
    rw [nextF_step l s i (by omega)] at h2 ⊢
    by_cases hc : l.getD i 0 = s
    · rw [if_pos hc]; exact hc
    · rw [if_neg hc] at h2 ⊢
      exact nextF_hit l s d (i + 1) (by omega) h2
theorem nextF_ge (l : List Nat) (s i : Nat) : i ≤ nextF l s i := by unfold nextF; omega

/-- At a place with the first one, so many counted, free from there on. -/
structure CntI (l : List Nat) (a b tot at' free count : Nat) : Prop where
  le : at' ≤ l.length
  hit : at' < l.length → l.getD at' 0 = a
  fr : free ≤ l.length + 1
  sum : count + metL a b (l.drop (max at' free)) = tot
theorem CntI.fin {l : List Nat} {a b tot i free count : Nat} (h : CntI l a b tot i free count) (he : l.length ≤ i + 1) : count = tot := by
  have := h.sum
  have h2 : metL a b (l.drop (max i free)) = 0 := by
    have hl : (l.drop (max i free)).length ≤ 1 := by rw [List.length_drop]; omega
    cases hd : l.drop (max i free) with
    | nil => exact metL_nil _ _
    | cons x r =>
      cases r with
      | nil => exact metL_one _ _ _
      | cons y r => rw [hd] at hl; simp at hl
  omega
theorem CntI.next {l : List Nat} {a b i : Nat} (f : Nat) (hi : i < l.length) (hf : i + 1 ≤ f) : metL a b (l.drop (max (nextF l a (i + 1)) f)) = metL a b (l.drop f) := by
  by_cases hc : nextF l a (i + 1) ≤ f
  · rw [show max (nextF l a (i + 1)) f = f by omega]
  · rw [show max (nextF l a (i + 1)) f = nextF l a (i + 1) by omega]
    exact (metL_skip a b l _ (nextF l a (i + 1) - f) f (by omega) (fun p h1 h2 => nextF_none l a (l.length - (i + 1)) (i + 1) (by omega) p (by omega) h2)).symm
theorem CntI.hit' {l : List Nat} {a b tot i free count : Nat} (h : CntI l a b tot i free count) (hi : i + 1 < l.length) (h1 : free ≤ i) (h2 : l.getD (i + 1) 0 = b) : CntI l a b tot (nextF l a (i + 1)) (i + 2) (count + 1) := by
  refine ⟨nextF_le l a (l.length - (i + 1)) (i + 1) (by omega), nextF_hit l a (l.length - (i + 1)) (i + 1) (by omega), by omega, ?_⟩
  rw [CntI.next (i + 2) (by omega) (by omega), ← h.sum, show max i free = i by omega]
  have e : l.drop i = l[i] :: l[i + 1] :: l.drop (i + 2) := by rw [List.drop_eq_getElem_cons (by omega), List.drop_eq_getElem_cons hi]
  have g1 : l.getD i 0 = l[i] := by simp [List.getD, (by omega : i < l.length)]
  have g2 : l.getD (i + 1) 0 = l[i + 1] := by simp [List.getD, hi]
  rw [e, metL_two, if_pos ⟨by rw [← g1]; exact h.hit (by omega), by rw [← g2]; exact h2⟩]
  omega
theorem CntI.miss {l : List Nat} {a b tot i free count : Nat} (h : CntI l a b tot i free count) (hi : i + 1 < l.length) (h1 : ¬ (free ≤ i ∧ l.getD (i + 1) 0 = b)) : CntI l a b tot (nextF l a (i + 1)) free count := by
  refine ⟨nextF_le l a (l.length - (i + 1)) (i + 1) (by omega), nextF_hit l a (l.length - (i + 1)) (i + 1) (by omega), h.fr, ?_⟩
  rw [← h.sum]
  by_cases hf : free ≤ i
  · have hn := nextF_ge l a (i + 1)
    have e0 := CntI.next (l := l) (a := a) (b := b) (i := i) (i + 1) (by omega) (Nat.le_refl _)
    rw [show max (nextF l a (i + 1)) free = max (nextF l a (i + 1)) (i + 1) by omega, e0, show max i free = i by omega]
    have e : l.drop i = l[i] :: l[i + 1] :: l.drop (i + 2) := by rw [List.drop_eq_getElem_cons (by omega), List.drop_eq_getElem_cons hi]
    have e2 : l.drop (i + 1) = l[i + 1] :: l.drop (i + 2) := List.drop_eq_getElem_cons hi
    have g2 : l.getD (i + 1) 0 = l[i + 1] := by simp [List.getD, hi]
    rw [e, e2, metL_two, if_neg (fun hc => h1 ⟨hf, by rw [g2]; exact hc.2⟩)]
  · rw [CntI.next free (by omega) (by omega), show max i free = free by omega]

theorem place_sym {w : World} {g : Nat} {l : List Nat} (h : Blk w g (placeCells l 0) 239) {i : Nat} (hi : i < l.length) : w.cell? ⟨g, i * 2, none⟩ = some (.int .i64 ((l.getD i 0 : Nat) : Int)) := by
  rw [h.cell]
  unfold placeCells
  rw [rowF_get _ (by omega)]
  unfold placeCell
  rw [if_neg (by omega), if_pos (by omega), show i * 2 / 2 = i by omega]
theorem place_nx {w : World} {g : Nat} {l : List Nat} (h : Blk w g (placeCells l 0) 239) {i : Nat} (hi : i < l.length) : w.cell? ⟨g, i * 2 + 1, none⟩ = some (.int .i64 ((nextF l (l.getD i 0) (i + 1) : Nat) : Int)) := by
  rw [h.cell]
  unfold placeCells
  rw [rowF_get _ (by omega)]
  unfold placeCell
  rw [if_neg (by omega), if_neg (by omega), show (i * 2 + 1) / 2 = i by omega]

set_option maxHeartbeats 4000000 in
set_option maxRecDepth 100000 in
theorem countFrom_any {l : List Nat} {g fr b : Nat} (w : World) (hb : Blk w g (placeCells l 0) 239) (hl : l.length ≤ 600) (hf : fr < l.length) :
    Calls Tryz.prog 122 #[.slice (some ⟨g, 0, none⟩) l.length l.length, .int .i64 (fr : Int), .int .i64 (b : Int)] w fun e w' => e = .returned (.int .i64 ((metL (l.getD fr 0) b (l.drop fr) : Nat) : Int)) ∧ w' = w := by
  have h0 : Hid (CntI l (l.getD fr 0) b (metL (l.getD fr 0) b (l.drop fr)) fr fr 0) := ⟨by omega, fun _ => rfl, by omega, by simp⟩
  generalize metL (l.getD fr 0) b (l.drop fr) = tot at *
  generalize l.getD fr 0 = a at *
  have hbH : Hid (Blk _ _ _ _) := hb
  clear hb
  go_enter Tryz.func122, Tryz.ntmps122
  go_wp2
  go_loopw [7, 8, 9] (fun cv fv iv wr => ∃ c f i : Nat, cv = .int .i64 (c : Int) ∧ fv = .int .i64 (f : Int) ∧ iv = .int .i64 (i : Int) ∧ wr = w ∧ c ≤ i ∧ CntI l a b tot i f c) (fun _ _ iv _ => ((l.length : Int) - intOf iv).toNat)
  case atStart => exact ⟨0, fr, fr, rfl, rfl, rfl, rfl, Nat.zero_le _, h0.out⟩
  case round =>
    obtain ⟨c, f, i, rfl, rfl, rfl, rfl, hci, hI⟩ := hrel
    clear h0
    have hile := hI.le
    by_cases hlt : (i : Int) + 1 < (l.length : Int)
    · have hi : i + 1 < l.length := by omega
      have c1 := place_sym hbH.out hi
      have c2 := place_nx hbH.out (show i < l.length by omega)
      rw [hI.hit (by omega)] at c2
      have hn1 := nextF_ge l a (i + 1)
      have hn2 := nextF_le l a (l.length - (i + 1)) (i + 1) (by omega)
      have hfr := hI.fr
      have hit := fun h1 h2 => hI.hit' hi h1 h2
      have miss := fun h1 => hI.miss hi h1
      clear hI
      generalize nextF l a (i + 1) = F at *
      generalize l.getD (i + 1) 0 = s at *
      by_cases hfi : (f : Int) ≤ (i : Int)
      · by_cases hsb : (s : Int) = (b : Int)
        · have H : Hid (CntI l a b tot F (i + 2) (c + 1)) := hit (by omega) (by omega)
          have hsb' : s = b := by omega
          subst hsb'
          clear hit miss hsb
          go_wp2
          refine ⟨⟨c + 1, i + 2, F, ?_, ?_, ?_, ?_, by omega, H.out⟩, ?_⟩ <;> first | rfl | trivial | go_num | (simp only [intOf]; omega)
        · have H : Hid (CntI l a b tot F f c) := miss (by omega)
          clear hit miss
          go_wp2
          refine ⟨⟨c, f, F, ?_, ?_, ?_, ?_, by omega, H.out⟩, ?_⟩ <;> first | rfl | trivial | go_num | (simp only [intOf]; omega)
      · have H : Hid (CntI l a b tot F f c) := miss (by omega)
        clear hit miss
        go_wp2
        refine ⟨⟨c, f, F, ?_, ?_, ?_, ?_, by omega, H.out⟩, ?_⟩ <;> first | rfl | trivial | go_num | (simp only [intOf]; omega)
    · have e := hI.fin (by omega)
      subst e
      clear hI
      generalize l.length = n at *
      go_wp2
      go_ret
      exact ⟨rfl, rfl⟩

def PV (p : Cand) : Value := .agg #[.int .i64 (p.a : Int), .int .i64 (p.b : Int), .int .i64 (p.n : Int)]
set_option maxHeartbeats 4000000 in
set_option maxRecDepth 100000 in
theorem taken_any (p q : Cand) (w : World) : Calls Tryz.prog 123 #[PV p, PV q] w fun e w' => e = .returned (.bool (decide (better p q))) ∧ Kept [] w w' := by
  obtain ⟨n, a, b⟩ := p
  obtain ⟨m, c, d⟩ := q
  unfold PV
  simp only []
  have hk : Hid (∀ o1 o2, Kept [] w ((w.alloc o1).alloc o2)) := fun o1 o2 => ((Kept.refl [] w).alloc o1).alloc o2
  by_cases h1 : n = m
  · subst h1
    by_cases h2 : a = c
    · subst h2
      have e : decide (better ⟨n, a, b⟩ ⟨n, a, d⟩) = decide (b < d) := decide_eq_decide.2 (by unfold better; constructor <;> intro h <;> dsimp only at * <;> omega)
      rw [e]
      clear e
      go_enter Tryz.func123, Tryz.ntmps123
      go_wp2
      go_ret
      exact ⟨rfl, hk.out _ _⟩
    · have e : decide (better ⟨n, a, b⟩ ⟨n, c, d⟩) = decide (a < c) := decide_eq_decide.2 (by unfold better; constructor <;> intro h <;> dsimp only at * <;> omega)
      rw [e]
      have h3 : ¬ (a : Int) = (c : Int) := by omega
      clear e h2
      go_enter Tryz.func123, Tryz.ntmps123
      go_wp2
      go_ret
      exact ⟨rfl, hk.out _ _⟩
  · have e : decide (better ⟨n, a, b⟩ ⟨m, c, d⟩) = decide (m < n) := decide_eq_decide.2 (by unfold better; constructor <;> intro h <;> dsimp only at * <;> omega)
    rw [e]
    have h3 : ¬ (n : Int) = (m : Int) := by omega
    clear e h1
    go_enter Tryz.func123, Tryz.ntmps123
    go_wp2
    go_ret
    exact ⟨rfl, hk.out _ _⟩

end Go.Proofs.YtgifhgnccmnbiabGreatDoor

set_option linter.unusedVariables false
set_option linter.unusedSimpArgs false
namespace Go.Proofs.YtgifhgnccmnbiabGreatDoor
open Go.RowKit Go.IntWalk

def pcells (p : Cand) : Array Value := #[.int .i64 (p.a : Int), .int .i64 (p.b : Int), .int .i64 (p.n : Int)]
structure CmI (w wr : World) (B g : Nat) (l : List Nat) (i : Nat) : Prop where
  k : Kept [] w wr
  bb : Blk wr B (pcells (bestQ (candC l) i)) 138
  rb : Blk wr w.heap.size #[.int .i64 0, .int .i64 0, .int .i64 0] 138
  pb : Blk wr g (placeCells l 0) 239
  ne : w.heap.size < g ∧ g < B

theorem size_pair : (Tryz.prog.info? 138).map (·.size) = some 3 := by kernel_rfl
theorem results_pair {fn : Func} {r : Tmp} (h : fn.results = #[.cell r 138]) (tmps : Array Value) (w : World) (g : Nat) (p : Cand)
    (hp : tmps.getD r undef = .pointer (some ⟨g, 0, none⟩)) (hg : Blk w g (pcells p) 138) : (results fn tmps).run Tryz.prog w = .ok (PV p) w :=
  results_cell_row h tmps w g _ _ _ _ hp hg Tryz.underlying138 rfl size_pair
theorem pair_over {w : World} {B : Nat} {p q : Cand} (h : Blk w B (pcells p) 138) : Blk (((w.setCell ⟨B, 0, none⟩ (.int .i64 (q.a : Int))).setCell ⟨B, 1, none⟩ (.int .i64 (q.b : Int))).setCell ⟨B, 2, none⟩ (.int .i64 (q.n : Int))) B (pcells q) 138 := by
  have := ((h.set 0 (.int .i64 (q.a : Int))).set 1 (.int .i64 (q.b : Int))).set 2 (.int .i64 (q.n : Int))
  simpa [pcells] using this

set_option maxHeartbeats 4000000 in
set_option maxRecDepth 100000 in
theorem commonest_any {l : List Nat} {v : Value} {base : Nat} (w : World) (hrow : w.ownsRow base 3 1 v l.length (symCells l)) (hl : l.length ≤ 600) (hs : ∀ s, s ∈ l → s < 356) :
    Calls Tryz.prog 74 #[v] w fun e w' => e = .returned (PV (bestQ (candC l) (l.length - 1))) ∧ Kept [] w w' := by
  obtain ⟨va, vk, vc, rfl⟩ := own_shape hrow
  have hvk : vk = l.length := by
    rcases hrow.2 with ⟨h1, h2⟩ | ⟨g, cap, _, h1, _⟩
    · simp at h1; omega
    · simp at h1; omega
  subst hvk
  have hrowH : Hid (World.ownsRow _ _ _ _ _ _ _) := hrow
  clear hrow
  have hpl : Hid (∀ w', w'.ownsRow base 3 1 (.slice va l.length vc) l.length (symCells l) → Calls Tryz.prog 121 #[.slice va l.length vc] w' _) := fun w' h => placesOf_any w' h hl hs
  have hrow2 : Hid (∀ o, (w.alloc o).ownsRow base 3 1 (.slice va l.length vc) l.length (symCells l)) := fun o => row_stay (S := []) hrowH.out ((Kept.refl [] w).alloc o) (fun _ _ => by simp)
  go_enter Tryz.func74, Tryz.ntmps74
  go_wp2_with fail
  refine (hpl.out _ (hrow2.out _)).mono ?_
  rintro e w1 ⟨g, rfl, ho⟩
  have hoH : Hid (PlOut _ _ _ _) := ho
  clear ho hpl hrow2
  go_wp2_with fail
  have hst : Hid (CmI w (w1.alloc (.cells #[.int .i64 0, .int .i64 0, .int .i64 0] 138)) w1.heap.size g l 0) := by
    have hk := hoH.out.kept
    have hge := hoH.out.ge
    simp at hge
    refine ⟨(((Kept.refl [] w).alloc _).trans hk).alloc _, Blk.new _ _ _, ((Blk.new w _ _).kept hk (by simp)).alloc _, hoH.out.blk.alloc _, ?_, hoH.out.blk.lt⟩
    omega
  clear hoH
  generalize w1.heap.size = B at *
  have hend : l.length - 1 ≤ 600 := by omega
  go_loopw [5] (fun iv wr => ∃ i : Nat, iv = .int .i64 (i : Int) ∧ i ≤ l.length - 1 ∧ CmI w wr B g l i) (fun iv _ => ((l.length : Int) - intOf iv).toNat)
  case atStart => exact ⟨0, rfl, Nat.zero_le _, hst.out⟩
  case round =>
    obtain ⟨i, rfl, hi, hI⟩ := hrel
    clear hst
    by_cases hlt : (i : Int) + 1 < (l.length : Int)
    · have hi1 : i + 1 < l.length := by omega
      have hr2 := row_stay (S := []) hrowH.out hI.k (fun _ _ => by simp)
      obtain ⟨rg, rcap, hv⟩ := own_form hrowH.out (by omega)
      simp only [Value.slice.injEq, true_and] at hv
      obtain ⟨rfl, rfl⟩ := hv
      obtain ⟨a, ha⟩ : ∃ a, Hid (l.getD i 0 = a) := ⟨_, rfl⟩
      obtain ⟨b, hb⟩ : ∃ b, Hid (l.getD (i + 1) 0 = b) := ⟨_, rfl⟩
      obtain ⟨c, hc⟩ : ∃ c, Hid (metL (l.getD i 0) (l.getD (i + 1) 0) (l.drop i) = c) := ⟨_, rfl⟩
      have hcc : Hid (candC l i = ⟨c, a, b⟩) := by show _ = _; unfold candC; rw [hc.out, ha.out, hb.out]
      have c1 : wr.cell? ⟨rg, i, none⟩ = some (.int .i64 (a : Int)) := by
        rw [← ha.out]
        have := hr2.cells (g := rg) rfl i _ (symCells_get l i (by omega))
        rwa [ptr_add] at this
      have c2 : wr.cell? ⟨rg, i + 1, none⟩ = some (.int .i64 (b : Int)) := by
        rw [← hb.out]
        have := hr2.cells (g := rg) rfl (i + 1) _ (symCells_get l (i + 1) hi1)
        rwa [ptr_add] at this
      have hr1 : rg < wr.heap.size := (hr2.lt rg rfl).2
      have hr3 : ¬ rg = wr.heap.size := by omega
      have hi2 : i < l.length := by omega
      clear hr2
      have hIH : Hid (CmI _ _ _ _ _ _) := hI
      clear hI
      go_wp2
      go_region
      go_wp2_with fail
      obtain ⟨W, hW⟩ : ∃ W, (wr.alloc (.cells #[.int .i64 (a : Int), .int .i64 (b : Int), .int .i64 0] 138)).drew = W := ⟨_, rfl⟩
      rw [hW]
      have pP : Hid (Blk W wr.heap.size (pcells ⟨0, a, b⟩) 138) := by rw [← hW]; exact (Blk.new _ _ _).drew
      have pI : Hid (CmI w W B g l i) := by
        rw [← hW]
        exact ⟨(hIH.out.k.alloc _).drew, (hIH.out.bb.alloc _).drew, (hIH.out.rb.alloc _).drew, (hIH.out.pb.alloc _).drew, hIH.out.ne⟩
      have hBl : B < wr.heap.size := hIH.out.bb.lt
      have hRl : w.heap.size < B := by have := hIH.out.ne; omega
      clear hW hIH c1 c2 hr1 hr3
      generalize wr.heap.size = P at *
      have q0 := pP.out.cell 0
      have q1 := pP.out.cell 1
      have q2 := pP.out.cell 2
      have r2 := pP.out.frozen 2
      simp only [pcells, List.getElem?_toArray, List.getElem?_cons_zero, List.getElem?_cons_succ] at q0 q1 q2
      have hc' : metL (l.getD i 0) b (l.drop i) = c := by rw [← hb.out]; exact hc.out
      have hcf := countFrom_any (fr := i) (b := b) W pI.out.pb hl hi2
      rw [hc'] at hcf
      refine hcf.mono ?_
      intro e w2 h
      obtain ⟨he, hw⟩ := h
      rw [hw]
      subst he
      clear hw hcf hc' hc ha hb
      have b0 := pI.out.bb.cell 0
      have b1 := pI.out.bb.cell 1
      have b2 := pI.out.bb.cell 2
      simp only [pcells, List.getElem?_toArray, List.getElem?_cons_zero, List.getElem?_cons_succ] at b0 b1 b2
      have hne : ¬ B = P := by omega
      have hne2 : ¬ P = B := by omega
      go_wp2_with fail
      obtain ⟨V, hV⟩ : ∃ V, W.setCell ⟨P, 2, none⟩ (.int .i64 (c : Int)) = V := ⟨_, rfl⟩
      rw [hV]
      have pP : Hid (Blk V P (pcells ⟨c, a, b⟩) 138) := by rw [← hV]; have := pP.out.set 2 (.int .i64 (c : Int)); show Blk _ _ _ _; simpa [pcells] using this
      have pI : Hid (CmI w V B g l i) := by
        rw [← hV]
        have h := pI.out
        have := h.ne
        exact ⟨h.k.setCell (Or.inr (by simp; omega)) _, h.bb.other _ _ (by omega), h.rb.other _ _ (by omega), h.pb.other _ _ (by omega), h.ne⟩
      clear hV q0 q1 q2 r2 b0 b1 b2
      have htk := taken_any ⟨c, a, b⟩ (bestQ (candC l) i) V
      have hnx : bestQ (candC l) (i + 1) = if better ⟨c, a, b⟩ (bestQ (candC l) i) then ⟨c, a, b⟩ else bestQ (candC l) i := by
        show (if better (candC l i) (bestQ (candC l) i) then candC l i else bestQ (candC l) i) = _
        rw [hcc.out]
      by_cases hbt : better ⟨c, a, b⟩ (bestQ (candC l) i)
      · rw [decide_eq_true hbt] at htk
        rw [if_pos hbt] at hnx
        refine htk.mono ?_
        rintro e w3 ⟨rfl, k3⟩
        have pP3 := pP.out.kept k3 (by simp)
        have h := pI.out
        have pI3 : Hid (CmI w w3 B g l i) := ⟨h.k.trans k3, h.bb.kept k3 (by simp), h.rb.kept k3 (by simp), h.pb.kept k3 (by simp), h.ne⟩
        have q0 := pP3.cell 0
        have q1 := pP3.cell 1
        have q2 := pP3.cell 2
        have b0 := pI3.out.bb.cell 0
        have b1 := pI3.out.bb.cell 1
        have b2 := pI3.out.bb.cell 2
        have f0 := pI3.out.bb.frozen 0
        have f1 := pI3.out.bb.frozen 1
        have f2 := pI3.out.bb.frozen 2
        simp only [pcells, List.getElem?_toArray, List.getElem?_cons_zero, List.getElem?_cons_succ] at q0 q1 q2 b0 b1 b2
        have hnx : Hid (_ = _) := hnx
        clear htk hbt h pP3 k3
        go_wp2
        have hn := pI3.out.ne
        refine ⟨⟨i + 1, by go_num, by omega, ⟨((pI3.out.k.setCell (Or.inr (by simp; omega)) _).setCell (Or.inr (by simp; omega)) _).setCell (Or.inr (by simp; omega)) _, ?_, ((pI3.out.rb.other _ _ (by omega)).other _ _ (by omega)).other _ _ (by omega), ((pI3.out.pb.other _ _ (by omega)).other _ _ (by omega)).other _ _ (by omega), hn⟩⟩, ?_⟩
        · rw [hnx.out]; exact pair_over (q := ⟨c, a, b⟩) pI3.out.bb
        · simp only [intOf]; omega
      · rw [decide_eq_false hbt] at htk
        rw [if_neg hbt] at hnx
        refine htk.mono ?_
        rintro e w3 ⟨rfl, k3⟩
        have h := pI.out
        have pI3 : Hid (CmI w w3 B g l (i + 1)) := ⟨h.k.trans k3, by rw [hnx]; exact h.bb.kept k3 (by simp), h.rb.kept k3 (by simp), h.pb.kept k3 (by simp), h.ne⟩
        clear htk hbt h k3 hnx
        go_wp2
        refine ⟨⟨i + 1, by go_num, by omega, pI3.out⟩, ?_⟩
        simp only [intOf]; omega
    · have e : i = l.length - 1 := by omega
      subst e
      have b0 := hI.bb.cell 0
      have b1 := hI.bb.cell 1
      have b2 := hI.bb.cell 2
      have d0 := hI.rb.cell 0
      have d1 := hI.rb.cell 1
      have d2 := hI.rb.cell 2
      have f0 := hI.rb.frozen 0
      have f1 := hI.rb.frozen 1
      have f2 := hI.rb.frozen 2
      simp only [pcells, List.getElem?_toArray, List.getElem?_cons_zero, List.getElem?_cons_succ] at b0 b1 b2 d0 d1 d2
      have hIH : Hid (CmI _ _ _ _ _ _) := hI
      clear hI
      go_wp2
      have H : Hid (Kept [] w (((wr.setCell ⟨w.heap.size, 0, none⟩ (.int .i64 ((bestQ (candC l) (l.length - 1)).a : Int))).setCell ⟨w.heap.size, 1, none⟩ (.int .i64 ((bestQ (candC l) (l.length - 1)).b : Int))).setCell ⟨w.heap.size, 2, none⟩ (.int .i64 ((bestQ (candC l) (l.length - 1)).n : Int)))) := ((hIH.out.k.setCell (Or.inr (Nat.le_refl _)) _).setCell (Or.inr (Nat.le_refl _)) _).setCell (Or.inr (Nat.le_refl _)) _
      exact bodyPost_ret (v := PV (bestQ (candC l) (l.length - 1))) (results_pair Tryz.results74 _ _ _ _ rfl (pair_over (p := ⟨0, 0, 0⟩) hIH.out.rb)) rfl ⟨rfl, H.out⟩

end Go.Proofs.YtgifhgnccmnbiabGreatDoor

set_option linter.unusedVariables false
set_option linter.unusedSimpArgs false
namespace Go.Proofs.YtgifhgnccmnbiabGreatDoor
open Go.RowKit Go.IntWalk

theorem replL_nil (a b s : Nat) : replL a b s [] = [] := by rw [replL]; intro _ _ _ h; cases h
theorem replL_one (a b s x : Nat) : replL a b s [x] = [x] := by rw [replL]; intro _ _ _ h; cases h
theorem replL_two (a b s x y : Nat) (r : List Nat) : replL a b s (x :: y :: r) = if x = a ∧ y = b then s :: replL a b s r else x :: replL a b s (y :: r) := by rw [replL]
theorem replL_hit {a b s : Nat} {l : List Nat} {i : Nat} (hi : i + 1 < l.length) (h1 : l.getD i 0 = a) (h2 : l.getD (i + 1) 0 = b) : replL a b s (l.drop i) = s :: replL a b s (l.drop (i + 2)) := by
  have e : l.drop i = l[i] :: l[i + 1] :: l.drop (i + 2) := by rw [List.drop_eq_getElem_cons (by omega), List.drop_eq_getElem_cons hi]
  have g1 : l.getD i 0 = l[i] := by simp [List.getD, (by omega : i < l.length)]
  have g2 : l.getD (i + 1) 0 = l[i + 1] := by simp [List.getD, hi]
  rw [e, replL_two, if_pos ⟨by rw [← g1]; exact h1, by rw [← g2]; exact h2⟩]
theorem replL_miss {a b s : Nat} {l : List Nat} {i : Nat} (hi : i < l.length) (h : ¬ (l.getD i 0 = a ∧ i + 1 < l.length ∧ l.getD (i + 1) 0 = b)) : replL a b s (l.drop i) = l.getD i 0 :: replL a b s (l.drop (i + 1)) := by
  have g1 : l.getD i 0 = l[i] := by simp [List.getD, hi]
  by_cases h2 : i + 1 < l.length
  · have e : l.drop i = l[i] :: l[i + 1] :: l.drop (i + 2) := by rw [List.drop_eq_getElem_cons (by omega), List.drop_eq_getElem_cons h2]
    have e2 : l.drop (i + 1) = l[i + 1] :: l.drop (i + 2) := List.drop_eq_getElem_cons h2
    have g2 : l.getD (i + 1) 0 = l[i + 1] := by simp [List.getD, h2]
    rw [e, e2, replL_two, if_neg (fun hc => h ⟨by rw [g1]; exact hc.1, h2, by rw [g2]; exact hc.2⟩), g1]
  · have e2 : l.drop (i + 1) = [] := List.drop_eq_nil_of_le (by omega)
    rw [List.drop_eq_getElem_cons hi, e2, replL_one, replL_nil, g1]
theorem replL_len (a b s : Nat) : ∀ (n : Nat) (l : List Nat), l.length ≤ n → (replL a b s l).length ≤ l.length
  | n, [], _ => by rw [replL_nil]; exact Nat.le_refl _
  | n, [x], _ => by rw [replL_one]; exact Nat.le_refl _
  | 0, x :: y :: r, h => by simp at h
  | n + 1, x :: y :: r, h => by
    rw [replL_two]
    split
    · have := replL_len a b s n r (by simp at h; omega)
      simp; omega
    · have := replL_len a b s n (y :: r) (by simp at h ⊢; omega)
      simp at this ⊢; omega
theorem replL_mem {a b s : Nat} : ∀ (n : Nat) (l : List Nat), l.length ≤ n → ∀ c, c ∈ replL a b s l → c = s ∨ c ∈ l
  | n, [], _, c, h => by rw [replL_nil] at h; exact Or.inr h
  | n, [x], _, c, h => by rw [replL_one] at h; exact Or.inr h
  | 0, x :: y :: r, h, _, _ => by simp at h
  | n + 1, x :: y :: r, hl, c, h => by
    rw [replL_two] at h
    split at h
    · rcases List.mem_cons.1 h with h | h
      · exact Or.inl h
      · rcases replL_mem n r (by simp at hl; omega) c h with h | h
        · exact Or.inl h
        · exact Or.inr (by simp [h])
    · rcases List.mem_cons.1 h with h | h
      · exact Or.inr (by simp [h])
      · rcases replL_mem n (y :: r) (by simp at hl ⊢; omega) c h with h | h
        · exact Or.inl h
        · exact Or.inr (List.mem_cons_of_mem _ h)

structure RpI (w wr : World) (p : Cand) (ov : Value) (O : List Nat) : Prop where
  k : Kept [] w wr
  row : wr.ownsRow (w.heap.size + 1) 3 1 ov O.length (symCells O)
  pb : Blk wr w.heap.size (pcells p) 138
theorem RpI.grow {w wr w' w3 : World} {p : Cand} {ov v' : Value} {O : List Nat} {x : Nat} (h : RpI w wr p ov O) (k : Kept [] wr w') (g : w'.grownBy w3 ov.ownBlock) (hown : w3.ownsRow (w.heap.size + 1) 3 1 v' (O.length + 1) (symCells O ++ [.int .i64 (x : Int)])) : RpI w w3 p v' (O ++ [x]) := by
  have hge : ∀ i, i ≤ w.heap.size → some i ≠ ov.ownBlock := fun i hi hc => by have := (h.row.lt i hc.symm).1; omega
  have hb := h.pb.kept k (by simp)
  have k2 := h.k.trans k
  refine ⟨⟨g.os.trans k2.os, g.tape.trans k2.tape, g.output.trans k2.output, Nat.le_trans k2.size g.size, fun i hi _ => (g.block i (Nat.lt_of_lt_of_le hi k2.size) (hge i (by omega))).trans (k2.block i hi (by simp))⟩, ?_, (g.block _ hb.lt (hge _ (Nat.le_refl _))).trans hb⟩
  rw [List.length_append, symCells_snoc]
  exact hown
structure RepOut (w w' : World) (v : Value) (O : List Nat) : Prop where
  k : Kept [] w w'
  row : w'.ownsRow w.heap.size 3 1 v O.length (symCells O)
theorem row_base {w : World} {b b' e z n : Nat} {v : Value} {xs : List Value} (h : w.ownsRow b e z v n xs) (hb : b' ≤ b) : w.ownsRow b' e z v n xs := by
  refine ⟨h.1, ?_⟩
  rcases h.2 with h1 | ⟨g, cap, cur, h1, h2, r⟩
  · exact Or.inl h1
  · exact Or.inr ⟨g, cap, cur, h1, Nat.le_trans hb h2, r⟩

set_option maxHeartbeats 4000000 in
set_option maxRecDepth 100000 in
theorem replaced_any {l : List Nat} {v : Value} {base : Nat} (w : World) (hrow : w.ownsRow base 3 1 v l.length (symCells l)) (hl : l.length ≤ 600) (p : Cand) (s : Nat) (hs : s < 1000) :
    Calls Tryz.prog 75 #[v, PV p, .int .i64 (s : Int)] w fun e w' => ∃ v', e = .returned v' ∧ RepOut w w' v' (replL p.a p.b s l) := by
  obtain ⟨va, vk, vc, rfl⟩ := own_shape hrow
  have hvk : vk = l.length := by
    rcases hrow.2 with ⟨h1, h2⟩ | ⟨g, cap, _, h1, _⟩
    · simp at h1; omega
    · simp at h1; omega
  subst hvk
  have hrowH : Hid (World.ownsRow _ _ _ _ _ _ _) := hrow
  clear hrow
  obtain ⟨n, a, b⟩ := p
  unfold PV
  simp only []
  have hst : Hid (RpI w (w.alloc (.cells (pcells ⟨n, a, b⟩) 138)) ⟨n, a, b⟩ (.slice none 0 0) []) := ⟨(Kept.refl [] w).alloc _, by exact World.ownsRow_nil _ _ _ _, Blk.new _ _ _⟩
  have h0 : Hid (replL a b s (l.drop 0) = replL a b s l) := rfl
  go_enter Tryz.func75, Tryz.ntmps75
  go_wp2_with fail
  go_loopw [7, 8] (fun ov iv wr => ∃ (i : Nat) (O : List Nat) (xa : Option Addr) (xk xc : Nat), ov = .slice xa xk xc ∧ iv = .int .i64 (i : Int) ∧ i ≤ l.length ∧ O.length ≤ i ∧ O ++ replL a b s (l.drop i) = replL a b s l ∧ RpI w wr ⟨n, a, b⟩ (.slice xa xk xc) O) (fun _ iv _ => ((l.length : Int) - intOf iv).toNat)
  case atStart => exact ⟨0, [], none, 0, 0, rfl, rfl, Nat.zero_le _, Nat.le_refl _, rfl, hst.out⟩
  case round =>
    obtain ⟨i, O, xa, xk, xc, rfl, rfl, hi, hO, hsum, hI⟩ := hrel
    have hsum : Hid (_ = _) := hsum
    clear hst h0
    by_cases hlt : (i : Int) < (l.length : Int)
    · have hi1 : i < l.length := by omega
      have hr2 := row_stay (S := []) hrowH.out hI.k (fun _ _ => by simp)
      obtain ⟨rg, rcap, hv⟩ := own_form hrowH.out (by omega)
      simp only [Value.slice.injEq, true_and] at hv
      obtain ⟨rfl, rfl⟩ := hv
      obtain ⟨x, hx⟩ : ∃ x, l.getD i 0 = x := ⟨_, rfl⟩
      have c1 : wr.cell? ⟨rg, i, none⟩ = some (.int .i64 (x : Int)) := by
        have := hr2.cells (g := rg) rfl i _ (symCells_get l i hi1)
        rwa [ptr_add, hx] at this
      have q0 := hI.pb.cell 0
      have q1 := hI.pb.cell 1
      simp only [pcells, List.getElem?_toArray, List.getElem?_cons_zero, List.getElem?_cons_succ] at q0 q1
      have own : ∀ k o, ((wr.drewN k).alloc o).ownsRow (w.heap.size + 1) 3 1 (.slice xa xk xc) O.length (symCells O) := fun k o => row_stay (S := []) hI.row (((Kept.refl [] wr).drewN k).alloc o) (fun _ _ => by simp)
      have kal : Hid (∀ k o, Kept [] wr ((wr.drewN k).alloc o)) := fun k o => ((Kept.refl [] wr).drewN k).alloc o
      have mb : O.length + 1 ≤ maxLen := by unfold maxLen; omega
      have hwl : w.heap.size + 1 ≤ wr.heap.size := hI.pb.lt
      obtain ⟨i0, hi0, hz0, hz1, hz2⟩ := info_parts infoInt
      have hIH : Hid (RpI _ _ _ _ _) := hI
      have hmiss := fun h => replL_miss (a := a) (b := b) (s := s) hi1 h
      rw [hx] at hmiss
      by_cases hxa : x = a
      · subst hxa
        by_cases h1 : (i : Int) + 1 < (l.length : Int)
        · have h1n : i + 1 < l.length := by omega
          obtain ⟨y, hy⟩ : ∃ y, l.getD (i + 1) 0 = y := ⟨_, rfl⟩
          have c2 : wr.cell? ⟨rg, i + 1, none⟩ = some (.int .i64 (y : Int)) := by
            have := hr2.cells (g := rg) rfl (i + 1) _ (symCells_get l (i + 1) h1n)
            rwa [ptr_add, hy] at this
          by_cases hyb : y = b
          · subst hyb
            have hrp : Hid (_ = _) := replL_hit (s := s) h1n hx hy
            clear hmiss hr2 hx hy hI
            go_wp2_with fail
            go_quiet (fail)
            go_wp2_with (at_builtin; refine wpList_append_own _ rfl (.tmp 44) (.tmp 46) 68 rfl (w.heap.size + 1) 3 i0 _ 1 8 Tryz.underlying68 hi0 hz0 hz1 hz2 rfl (by decide) (.slice xa xk xc) O.length (symCells O) rfl (by exact own _ _) ⟨wr.heap.size, 0, none⟩ 1 1 [.int .i64 (s : Int)] rfl rfl (by exact cells_new _ _ _ _ rfl) (by simp [Value.oneCell']) mb (by omega) (by simp; omega) ?kk)
            case kk =>
              intro v' w3 hown hg _
              obtain ⟨gv, cap, rfl⟩ := own_form hown (by omega)
              have hI3 : Hid (RpI w w3 ⟨n, x, y⟩ (.slice (some ⟨gv, 0, none⟩) (O.length + 1) cap) (O ++ [s])) := hIH.out.grow (kal.out _ _) hg hown
              clear hown hg own
              go_wp2
              refine ⟨⟨i + 2, O ++ [s], _, _, _, rfl, by go_num, by omega, by simp; omega, by rw [← hsum.out, hrp.out]; simp, hI3.out⟩, ?_⟩
              simp only [intOf]; omega
          · have hrp : Hid (_ = _) := hmiss (fun hc => hyb (hy ▸ hc.2.2))
            have e1 : decide ((y : Int) = (b : Int)) = false := decide_eq_false (by omega)
            have e2 : ((y : Int) == (b : Int)) = false := by simp; omega
            clear hmiss hr2 hx hy hI hyb
            go_wp2_with fail
            go_quiet (fail)
            go_wp2_with (at_builtin; refine wpList_append_own _ rfl (.tmp 44) (.tmp 46) 68 rfl (w.heap.size + 1) 3 i0 _ 1 8 Tryz.underlying68 hi0 hz0 hz1 hz2 rfl (by decide) (.slice xa xk xc) O.length (symCells O) rfl (by exact own _ _) ⟨wr.heap.size, 0, none⟩ 1 1 [.int .i64 (x : Int)] rfl rfl (by exact cells_new _ _ _ _ rfl) (by simp [Value.oneCell']) mb (by omega) (by simp; omega) ?kk)
            case kk =>
              intro v' w3 hown hg _
              obtain ⟨gv, cap, rfl⟩ := own_form hown (by omega)
              have hI3 : Hid (RpI w w3 ⟨n, x, b⟩ (.slice (some ⟨gv, 0, none⟩) (O.length + 1) cap) (O ++ [x])) := hIH.out.grow (kal.out _ _) hg hown
              clear hown hg own
              go_wp2
              refine ⟨⟨i + 1, O ++ [x], _, _, _, rfl, by go_num, by omega, by simp; omega, by rw [← hsum.out, hrp.out]; simp, hI3.out⟩, ?_⟩
              simp only [intOf]; omega
        · have hrp : Hid (_ = _) := hmiss (fun hc => by omega)
          have e1 : decide ((i : Int) + 1 < (l.length : Int)) = false := decide_eq_false h1
          clear hmiss hr2 hx hI
          go_wp2_with fail
          go_quiet (fail)
          go_wp2_with (at_builtin; refine wpList_append_own _ rfl (.tmp 44) (.tmp 46) 68 rfl (w.heap.size + 1) 3 i0 _ 1 8 Tryz.underlying68 hi0 hz0 hz1 hz2 rfl (by decide) (.slice xa xk xc) O.length (symCells O) rfl (by exact own _ _) ⟨wr.heap.size, 0, none⟩ 1 1 [.int .i64 (x : Int)] rfl rfl (by exact cells_new _ _ _ _ rfl) (by simp [Value.oneCell']) mb (by omega) (by simp; omega) ?kk)
          case kk =>
            intro v' w3 hown hg _
            obtain ⟨gv, cap, rfl⟩ := own_form hown (by omega)
            have hI3 : Hid (RpI w w3 ⟨n, x, b⟩ (.slice (some ⟨gv, 0, none⟩) (O.length + 1) cap) (O ++ [x])) := hIH.out.grow (kal.out _ _) hg hown
            clear hown hg own
            go_wp2
            refine ⟨⟨i + 1, O ++ [x], _, _, _, rfl, by go_num, by omega, by simp; omega, by rw [← hsum.out, hrp.out]; simp, hI3.out⟩, ?_⟩
            simp only [intOf]; omega
      · have hrp : Hid (_ = _) := hmiss (fun hc => hxa hc.1)
        have e1 : decide ((x : Int) = (a : Int)) = false := decide_eq_false (by omega)
        have e2 : ((x : Int) == (a : Int)) = false := by simp; omega
        clear hmiss hr2 hx hI hxa
        go_wp2_with fail
        go_quiet (fail)
        go_wp2_with (at_builtin; refine wpList_append_own _ rfl (.tmp 44) (.tmp 46) 68 rfl (w.heap.size + 1) 3 i0 _ 1 8 Tryz.underlying68 hi0 hz0 hz1 hz2 rfl (by decide) (.slice xa xk xc) O.length (symCells O) rfl (by exact own _ _) ⟨wr.heap.size, 0, none⟩ 1 1 [.int .i64 (x : Int)] rfl rfl (by exact cells_new _ _ _ _ rfl) (by simp [Value.oneCell']) mb (by omega) (by simp; omega) ?kk)
        case kk =>
          intro v' w3 hown hg _
          obtain ⟨gv, cap, rfl⟩ := own_form hown (by omega)
          have hI3 : Hid (RpI w w3 ⟨n, a, b⟩ (.slice (some ⟨gv, 0, none⟩) (O.length + 1) cap) (O ++ [x])) := hIH.out.grow (kal.out _ _) hg hown
          clear hown hg own
          go_wp2
          refine ⟨⟨i + 1, O ++ [x], _, _, _, rfl, by go_num, by omega, by simp; omega, by rw [← hsum.out, hrp.out]; simp, hI3.out⟩, ?_⟩
          simp only [intOf]; omega
    · have e : i = l.length := by omega
      subst e
      have he : Hid (O = replL a b s l) := by
        have := hsum.out
        rw [List.drop_eq_nil_of_le (Nat.le_refl _), replL_nil, List.append_nil] at this
        exact this
      have hI : Hid (RpI _ _ _ _ _) := hI
      clear hsum
      go_wp2
      go_ret
      exact ⟨_, rfl, hI.out.k, by rw [← he.out]; exact row_base hI.out.row (Nat.le_succ _)⟩

end Go.Proofs.YtgifhgnccmnbiabGreatDoor

set_option linter.unusedVariables false
set_option linter.unusedSimpArgs false
namespace Go.Proofs.YtgifhgnccmnbiabGreatDoor
open Go.RowKit Go.IntWalk

theorem digs_one (V n m : Nat) (hV : V < 256 ^ m) (hn : n < 256) : digs (V + n * 2 ^ (8 * m)) (m + 1) = digs V m ++ [n] := by
  have e := digs_keep V n m 0
  have e2 := div_more V n m 0
  rw [Nat.add_zero] at e e2
  rw [digs_succ, e]
  congr 1
  unfold dig
  rw [e2, Nat.div_eq_of_lt hV, Nat.pow_zero, Nat.mul_one, Nat.zero_add, Nat.mod_eq_of_lt hn]
theorem digs_two (V n m : Nat) (hV : V < 256 ^ m) (hn : n < 65536) : digs (V + n * 2 ^ (8 * m)) (m + 2) = digs V m ++ [n % 256, n / 256] := by
  have e := digs_keep V n m 0
  have e2 := div_more V n m 0
  have e3 := div_next (V + n * 2 ^ (8 * m)) m
  rw [Nat.add_zero] at e e2
  rw [show m + 2 = m + 1 + 1 by omega, digs_succ, digs_succ, e, List.append_assoc]
  have h2 : (V + n * 2 ^ (8 * m)) / 256 ^ m = n := by rw [e2, Nat.div_eq_of_lt hV, Nat.pow_zero, Nat.mul_one, Nat.zero_add]
  congr 1
  unfold dig
  rw [← e3, h2, Nat.mod_eq_of_lt (show n / 256 < 256 by omega)]
  rfl

/-- A writer of whole bytes. -/
structure GW (w wr : World) (b : Nat) (B : List Nat) : Prop where
  below : Below b w wr
  ex : ∃ V v, digs V B.length = B ∧ V < 2 ^ (8 * B.length) ∧ BWL wr b #[] 130 V (8 * B.length / 8) (8 * B.length % 8) v
def two16 (n : Nat) : List Nat := [n % 256, n / 256]
theorem gw8 {w wr : World} {b : Nat} {B : List Nat} (h : GW w wr b B) (n : Nat) (hn : n < 256) (hB : B.length ≤ 10000) :
    Calls Tryz.prog 70 #[.pointer (some ⟨b, 0, none⟩), .int .i64 (n : Int), .int .i64 8] wr fun e w' => e = .returned (.tuple #[]) ∧ GW w w' b (B ++ [n]) := by
  obtain ⟨hb, V, v, hd, hV, hW⟩ := h
  refine (number_any wr b #[] 130 V (8 * B.length) v hW (by decide) hV n 8 (by omega) (by omega) (by omega)).mono ?_
  rintro e w' ⟨rfl, o⟩
  refine ⟨rfl, hb.trans o.below, V + n * 2 ^ (8 * B.length), ?_⟩
  obtain ⟨v', hW'⟩ := o.ex
  have hbd := o.bd
  have e1 : 8 * B.length + 8 = 8 * (B ++ [n]).length := by simp; omega
  rw [e1] at hW' hbd
  refine ⟨v', ?_, hbd, hW'⟩
  have e2 : (B ++ [n]).length = B.length + 1 := by simp
  have hp := pow8 B.length 0
  rw [Nat.add_zero, Nat.pow_zero, Nat.mul_one] at hp
  rw [e2, digs_one V n B.length (by rw [← hp]; exact hV) hn, hd]
theorem gw16 {w wr : World} {b : Nat} {B : List Nat} (h : GW w wr b B) (n : Nat) (hn : n < 65536) (hB : B.length ≤ 10000) :
    Calls Tryz.prog 70 #[.pointer (some ⟨b, 0, none⟩), .int .i64 (n : Int), .int .i64 16] wr fun e w' => e = .returned (.tuple #[]) ∧ GW w w' b (B ++ two16 n) := by
  obtain ⟨hb, V, v, hd, hV, hW⟩ := h
  refine (number_any wr b #[] 130 V (8 * B.length) v hW (by decide) hV n 16 (by omega) (by omega) (by omega)).mono ?_
  rintro e w' ⟨rfl, o⟩
  refine ⟨rfl, hb.trans o.below, V + n * 2 ^ (8 * B.length), ?_⟩
  obtain ⟨v', hW'⟩ := o.ex
  have hbd := o.bd
  have e1 : 8 * B.length + 16 = 8 * (B ++ two16 n).length := by simp [two16]; omega
  rw [e1] at hW' hbd
  refine ⟨v', ?_, hbd, hW'⟩
  have e2 : (B ++ two16 n).length = B.length + 2 := by simp [two16]
  have hp := pow8 B.length 0
  rw [Nat.add_zero, Nat.pow_zero, Nat.mul_one] at hp
  rw [e2, digs_two V n B.length (by rw [← hp]; exact hV) hn, hd]
  rfl
theorem gwEnd {w wr : World} {b : Nat} {B : List Nat} (h : GW w wr b B) (hB : B.length ≤ 10000) :
    Calls Tryz.prog 73 #[.pointer (some ⟨b, 0, none⟩)] wr fun e w' => e = .returned (.string (bytesB B)) ∧ Below b w w' := by
  obtain ⟨hb, V, v, hd, hV, hW⟩ := h
  refine (bend_any wr b #[] 130 V (8 * B.length) v hW (by decide) hV (by omega)).mono ?_
  rintro e w' ⟨rfl, o⟩
  refine ⟨?_, hb.trans o⟩
  rw [show (8 * B.length + 7) / 8 = B.length by omega, hd]

def pcs (l : List Cand) : List Value := l.flatMap fun p => [.int .i64 (p.a : Int), .int .i64 (p.b : Int), .int .i64 (p.n : Int)]
theorem pcs_get : ∀ (l : List Cand) (i : Nat) (p : Cand), l[i]? = some p → ∀ j, j < 3 → (pcs l)[i * 3 + j]? = (pcells p)[j]?
  | [], i, p, h, _, _ => by simp at h
  | q :: l, 0, p, h, j, hj => by
    have hq : q = p := by simpa using h
    subst hq
    unfold pcs
    rw [List.flatMap_cons, List.getElem?_append_left (by simp; omega)]
    simp [pcells]
  | q :: l, i + 1, p, h, j, hj => by
    have := pcs_get l i p (by simpa using h) j hj
    rw [← this]
    unfold pcs
    rw [List.flatMap_cons, List.getElem?_append_right (by simp; omega)]
    congr 1
    simp; omega
def ruleBytes (l : List Cand) : List Nat := l.flatMap fun p => two16 p.a ++ two16 p.b
def symBytes (l : List Nat) : List Nat := l.flatMap two16
theorem ruleBytes_len (l : List Cand) : (ruleBytes l).length = 4 * l.length := by
  unfold ruleBytes
  induction l with
  | nil => rfl
  | cons p l ih => rw [List.flatMap_cons, List.length_append, ih]; simp [two16]; omega
theorem symBytes_len (l : List Nat) : (symBytes l).length = 2 * l.length := by
  unfold symBytes
  induction l with
  | nil => rfl
  | cons p l ih => rw [List.flatMap_cons, List.length_append, ih]; simp [two16]; omega
theorem ruleBytes_snoc (l : List Cand) (i : Nat) (p : Cand) (h : l[i]? = some p) : ruleBytes (l.take (i + 1)) = ruleBytes (l.take i) ++ two16 p.a ++ two16 p.b := by
  unfold ruleBytes
  rw [List.take_add_one, h, List.flatMap_append]; simp
theorem symBytes_snoc (l : List Nat) (i : Nat) (h : i < l.length) : symBytes (l.take (i + 1)) = symBytes (l.take i) ++ two16 (l.getD i 0) := by
  unfold symBytes
  rw [List.take_add_one, List.getElem?_eq_getElem h, List.flatMap_append]; simp [List.getD, h]
def gbody (R : List Cand) (l : List Nat) : List Nat := [R.length] ++ ruleBytes R ++ two16 l.length ++ symBytes l
def gfile (R : List Cand) (l : List Nat) : ByteArray := ⟨#[83, 71]⟩ ++ bytesB (gbody R l)

set_option maxHeartbeats 4000000 in
set_option maxRecDepth 100000 in
theorem fileOf_any {R : List Cand} {l : List Nat} {rv sv : Value} {b1 b2 : Nat} (w : World) (hR : w.ownsRow b1 138 3 rv R.length (pcs R)) (hS : w.ownsRow b2 3 1 sv l.length (symCells l))
    (hRl : R.length ≤ 100) (hl : l.length ≤ 600) (hRb : ∀ p, p ∈ R → p.a < 356 ∧ p.b < 356) (hlb : ∀ s, s ∈ l → s < 356) :
    Calls Tryz.prog 76 #[rv, sv] w fun e w' => e = .returned (.string (gfile R l)) ∧ Below w.heap.size w w' := by
  obtain ⟨ra, rk, rc, rfl⟩ := own_shape hR
  obtain ⟨sa, sk, sc, rfl⟩ := own_shape hS
  have e1 : rk = R.length := by
    rcases hR.2 with ⟨h1, h2⟩ | ⟨g, cap, _, h1, _⟩
    · simp at h1; omega
    · simp at h1; omega
  have e2 : sk = l.length := by
    rcases hS.2 with ⟨h1, h2⟩ | ⟨g, cap, _, h1, _⟩
    · simp at h1; omega
    · simp at h1; omega
  subst e1 e2
  have hRH : Hid (World.ownsRow _ _ _ _ _ _ _) := hR
  have hSH : Hid (World.ownsRow _ _ _ _ _ _ _) := hS
  clear hR hS
  have h0 : GW w (w.alloc (.cells #[.slice none 0 0, .int .i64 0, .int .i64 0] 130)) w.heap.size [] :=
    ⟨(Below.refl _ _).alloc (Nat.le_refl _) _, 0, .slice none 0 0, rfl, by decide, ⟨Blk.new _ _ _, by exact World.ownsRow_nil _ _ _ _⟩⟩
  have hn0 : Hid (Calls _ _ _ _ _) := gw8 h0 R.length (by omega) (by simp)
  have hrl : Hid (∀ i, i ≤ R.length → ([R.length] ++ ruleBytes (R.take i)).length ≤ 500) := fun i hi => by rw [List.length_append, ruleBytes_len, List.length_take]; simp; omega
  have hgf : Hid (gfile R l = ⟨#[83, 71]⟩ ++ bytesB (gbody R l)) := rfl
  clear h0
  go_enter Tryz.func76, Tryz.ntmps76
  go_wp2_with (go_at_call 70; refine hn0.out.mono ?_; rintro _ w2 ⟨rfl, o2⟩)
  have o2 : Hid (GW _ _ _ _) := o2
  clear hn0
  go_loopw [6] (fun iv wr => ∃ i : Nat, iv = .int .i64 (i : Int) ∧ i ≤ R.length ∧ GW w wr w.heap.size ([R.length] ++ ruleBytes (R.take i))) (fun iv _ => ((R.length : Int) - intOf iv).toNat)
  case atStart => exact ⟨0, rfl, Nat.zero_le _, by have := o2.out; simpa [ruleBytes] using this⟩
  case round =>
    clear o2
    obtain ⟨i, rfl, hi, hI⟩ := hrel
    have hil := hrl.out i hi
    by_cases hlt : (i : Int) < (R.length : Int)
    · obtain ⟨p, hp⟩ : ∃ p, R[i]? = some p := ⟨_, List.getElem?_eq_getElem (by omega)⟩
      have hpb := hRb p (List.mem_of_getElem? hp)
      obtain ⟨g, cap, hv⟩ := own_form hRH.out (by omega)
      simp only [Value.slice.injEq, true_and] at hv
      obtain ⟨rfl, rfl⟩ := hv
      have hr2 := fun w' (h : Below w.heap.size w w') => row_under hRH.out (fun g hg => (hRH.out.lt g hg).2) h (Nat.le_refl _)
      have hc1 : Hid (∀ w', Below w.heap.size w w' → w'.cell? ⟨g, i * 3, none⟩ = some (.int .i64 (p.a : Int))) := fun w' h => by
        have := (hr2 w' h).cells (g := g) rfl (i * 3 + 0) _ (by rw [pcs_get R i p hp 0 (by omega)]; rfl)
        rwa [ptr_add] at this
      have hc2 : Hid (∀ w', Below w.heap.size w w' → w'.cell? ⟨g, i * 3 + 1, none⟩ = some (.int .i64 (p.b : Int))) := fun w' h => by
        have := (hr2 w' h).cells (g := g) rfl (i * 3 + 1) _ (by rw [pcs_get R i p hp 1 (by omega)]; rfl)
        rwa [ptr_add] at this
      have c1 := hc1.out wr hI.below
      have hn1 : Hid (Calls _ _ _ wr _) := gw16 hI p.a (by omega) (by omega)
      have hn2 : Hid (∀ w3, GW w w3 w.heap.size ([R.length] ++ ruleBytes (R.take i) ++ two16 p.a) → Calls _ _ _ w3 _) := fun w3 h => gw16 h p.b (by omega) (by rw [List.length_append]; simp only [two16, List.length_cons, List.length_nil]; omega)
      have hs : Hid (ruleBytes (R.take (i + 1)) = ruleBytes (R.take i) ++ two16 p.a ++ two16 p.b) := ruleBytes_snoc R i p hp
      clear hI hr2 hp hil
      generalize p.a = a at *
      generalize p.b = b at *
      go_wp2_with (first
        | (go_at_call_of 70 (Value.int IntKind.i64 (a : Int)); refine hn1.out.mono ?_; rintro _ w3 ⟨rfl, o3⟩; have c2 := hc2.out _ o3.below; have o3 : Hid (GW _ _ _ _) := o3)
        | (go_at_call_of 70 (Value.int IntKind.i64 (b : Int)); refine (hn2.out _ o3.out).mono ?_; rintro _ w4 ⟨rfl, o4⟩; have o4 : Hid (GW _ _ _ _) := o4))
      refine ⟨⟨i + 1, by go_num, by omega, by rw [hs.out]; have := o4.out; simpa [List.append_assoc] using this⟩, ?_⟩
      simp only [intOf]; omega
    · have e : i = R.length := by omega
      subst e
      rw [List.take_length] at hI hil
      have hn3 : Hid (Calls _ _ _ wr _) := gw16 hI l.length (by omega) (by omega)
      have hsl : Hid (∀ i, i ≤ l.length → ([R.length] ++ ruleBytes R ++ two16 l.length ++ symBytes (l.take i)).length ≤ 5000) := fun i hi => by
        rw [List.length_append, List.length_append, symBytes_len, List.length_take]; simp [two16] at hil ⊢; omega
      clear hI
      go_wp2_with (go_at_call 70; refine hn3.out.mono ?_; rintro _ w3 ⟨rfl, o3⟩)
      have o3 : Hid (GW _ _ _ _) := o3
      clear hn3 hil hrl
      go_loopw [7] (fun iv wr => ∃ i : Nat, iv = .int .i64 (i : Int) ∧ i ≤ l.length ∧ GW w wr w.heap.size ([R.length] ++ ruleBytes R ++ two16 l.length ++ symBytes (l.take i))) (fun iv _ => ((l.length : Int) - intOf iv).toNat)
      case atStart => exact ⟨0, rfl, Nat.zero_le _, by have := o3.out; simpa [symBytes] using this⟩
      case round =>
        clear o3
        obtain ⟨j, rfl, hj, hI⟩ := hrel
        have hjl := hsl.out j hj
        by_cases hlt2 : (j : Int) < (l.length : Int)
        · obtain ⟨g, cap, hv⟩ := own_form hSH.out (by omega)
          simp only [Value.slice.injEq, true_and] at hv
          obtain ⟨rfl, rfl⟩ := hv
          have hr2 := row_under hSH.out (fun g hg => (hSH.out.lt g hg).2) hI.below (Nat.le_refl _)
          obtain ⟨x, hx⟩ : ∃ x, l.getD j 0 = x := ⟨_, rfl⟩
          have hjn : j < l.length := by omega
          have hxb : x < 356 := by
            rw [← hx]; apply hlb; simp [List.getD, hjn]
          have c1 : wr.cell? ⟨g, j, none⟩ = some (.int .i64 (x : Int)) := by
            have := hr2.cells (g := g) rfl j _ (symCells_get l j hjn)
            rwa [ptr_add, hx] at this
          have hs := symBytes_snoc l j hjn
          rw [hx] at hs
          have hs : Hid (_ = _) := hs
          have hn4 : Hid (Calls _ _ _ wr _) := gw16 hI x (by omega) (by omega)
          clear hI hr2 hx hjl
          go_wp2_with (go_at_call 70; refine hn4.out.mono ?_; rintro _ w4 ⟨rfl, o4⟩; have o4 : Hid (GW _ _ _ _) := o4)
          refine ⟨⟨j + 1, by go_num, by omega, by rw [hs.out]; have := o4.out; simpa [List.append_assoc] using this⟩, ?_⟩
          simp only [intOf]; omega
        · have e : j = l.length := by omega
          subst e
          rw [List.take_length] at hI hjl
          have hend : Hid (Calls _ _ _ wr _) := gwEnd hI (by omega)
          have hsz : (bytesB (gbody R l)).size ≤ 5000 := by
            unfold bytesB gbody
            show (((([R.length] ++ ruleBytes R ++ two16 l.length ++ symBytes l)).map Nat.toUInt8).toArray).size ≤ _
            simp at hjl ⊢; omega
          have hb : [R.length] ++ ruleBytes R ++ two16 l.length ++ symBytes l = gbody R l := rfl
          rw [hb] at hend
          clear hI hjl hb
          generalize bytesB (gbody R l) = Z at *
          have hx1 : ¬ 9223372036854775807 < 2 + Z.size := by omega
          go_wp2_with (go_at_call 73; refine hend.out.mono ?_; rintro _ w5 ⟨rfl, b5⟩)
          go_ret
          exact ⟨by rw [hgf.out]; rfl, b5⟩

end Go.Proofs.YtgifhgnccmnbiabGreatDoor
