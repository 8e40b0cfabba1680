/- Package packed: where the same symbol stands next. -/
import Derived.Test.YtgifhgnccmnbiaaGPure
import Derived.WalkSmall
set_option linter.unusedVariables false
set_option linter.unusedSimpArgs false
namespace Go.Proofs.Ytgifhgnccmnbiaa
open Go.RowKit Go.IntWalk

/-- Cells given by a function. -/
def rowF (n : Nat) (f : Nat → Value) : Array Value := ((List.range n).map f).toArray
@[simp] theorem rowF_size (n : Nat) (f : Nat → Value) : (rowF n f).size = n := by simp [rowF]
theorem rowF_get {n : Nat} (f : Nat → Value) {i : Nat} (h : i < n) : (rowF n f)[i]? = some (f i) := by simp [rowF, h]
theorem rowF_set {n : Nat} (f f' : Nat → Value) (i : Nat) (v : Value) (h : ∀ j, j < n → f' j = if j = i then v else f j) : (rowF n f).setIfInBounds i v = rowF n f' := by
  apply Array.ext
  · simp [rowF]
  · intro j h1 h2
    have hj : j < n := by simpa [rowF] using h2
    rw [Array.getElem_setIfInBounds (by simpa [rowF] using hj)]
    simp only [rowF, List.getElem_toArray, List.getElem_map, List.getElem_range]
    rw [h j hj]
    by_cases hij : i = j
    · subst hij; simp
    · rw [if_neg hij, if_neg (fun hc => hij hc.symm)]
theorem rowF_congr {n : Nat} {f f' : Nat → Value} (h : ∀ j, j < n → f j = f' j) : rowF n f = rowF n f' := by
  apply Array.ext
  · simp [rowF]
  · intro j h1 h2
    simp only [rowF, List.getElem_toArray, List.getElem_map, List.getElem_range]
    exact h j (by simpa [rowF] using h1)

/-- How far to the next s. -/
def nx (s : Nat) : List Nat → Nat
  | [] => 0
  | x :: r => if x = s then 0 else nx s r + 1
def nextF (l : List Nat) (s i : Nat) : Nat := i + nx s (l.drop i)
theorem nextF_end (l : List Nat) (s : Nat) : nextF l s l.length = l.length := by unfold nextF; rw [List.drop_eq_nil_of_le (Nat.le_refl _)]; rfl
theorem nextF_step (l : List Nat) (s i : Nat) (h : i < l.length) : nextF l s i = if l.getD i 0 = s then i else nextF l s (i + 1) := by
  unfold nextF
  have g : l.getD i 0 = l[i] := by simp [List.getD, h]
  rw [g, List.drop_eq_getElem_cons h, nx]
  split
  · rfl
  · omega
theorem nextF_le (l : List Nat) (s : Nat) : ∀ k i, i + k = l.length → nextF l s i ≤ l.length
  | 0, i, h => by
    have : i = l.length := by omega
    rw [this, nextF_end]; exact Nat.le_refl _
  | k + 1, i, h => by
    rw [nextF_step l s i (by omega)]
    split
    · omega
    · exact nextF_le l s k (i + 1) (by omega)
/-- The table of the next ones, behind place i. -/
def nextCells (l : List Nat) (i : Nat) : Array Value := rowF 356 fun s => .int .i64 ((nextF l s i : Nat) : Int)
def placeCell (l : List Nat) (i k : Nat) : Value :=
  if k / 2 < i then .int .i64 0 else if k % 2 = 0 then .int .i64 ((l.getD (k / 2) 0 : Nat) : Int) else .int .i64 ((nextF l (l.getD (k / 2) 0) (k / 2 + 1) : Nat) : Int)
/-- The places from i on are told; those ahead of it not yet. -/
def placeCells (l : List Nat) (i : Nat) : Array Value := rowF (2 * l.length) (placeCell l i)

theorem zero_next : (Try.prog.info? 200).map (fun i => (i.zero, i.size)) = some (some (.agg (rowF 356 fun _ => .int .i64 0)), 356) := by kernel_rfl
theorem zeroV_next (w : World) : (zeroValue 200).run Try.prog w = .ok (.agg (rowF 356 fun _ => .int .i64 0)) w := by
  have h := zero_next
  cases hq : Try.prog.info? 200 with
  | none => simp [hq] at h
  | some i =>
    simp [hq] at h
    simp [zeroValue, typeInfo, hq, h.1]
theorem infoPlace : (Try.prog.info? 202).map (fun i => (i.zero, i.size, i.bytes)) = some (some (.agg #[.int .i64 0, .int .i64 0]), 2, 16) := by kernel_rfl
theorem made_zero (n : Nat) : madeCells #[Value.int .i64 0, Value.int .i64 0] n = rowF n fun _ => .int .i64 0 := by
  unfold madeCells rowF
  apply Array.ext
  · simp
  · intro j h1 h2
    simp only [List.getElem_toArray, List.getElem_map]
    have hj : j % 2 = 0 ∨ j % 2 = 1 := by omega
    simp
    rcases hj with hj | hj <;> simp [hj]

theorem made_blk {w : World} {base g n : Nat} {e : TypeId} (h : w.ownsRow base e 2 (.slice (some ⟨g, 0, none⟩) n n) n (madeCells #[Value.int .i64 0, Value.int .i64 0] (n * 2)).toList) : Blk w g (rowF (2 * n) fun _ => .int .i64 0) e := by
  rcases h.2 with ⟨h1, _⟩ | ⟨g', cap, cur, h1, h2, h3, h4, h5, h6, h7⟩
  · simp at h1
  · simp only [Value.slice.injEq, Option.some.injEq, Addr.mk.injEq, and_true, true_and] at h1
    obtain ⟨rfl, rfl⟩ := h1
    have hc : cur = rowF (2 * n) fun _ => .int .i64 0 := by
      rw [← made_zero, Nat.mul_comm]
      apply Array.ext'
      rw [← h7, List.take_of_length_le]
      rw [Array.length_toList, h6]; exact Nat.le_refl _
    rw [← hc]
    exact h3
theorem place_none (l : List Nat) : placeCells l l.length = rowF (2 * l.length) fun _ => .int .i64 0 := rowF_congr fun k hk => by
  unfold placeCell
  rw [if_pos (by omega)]
theorem place_set (l : List Nat) (i : Nat) (h : i < l.length) (x : Value) : (((placeCells l (i + 1)).setIfInBounds (i * 2) (.int .i64 ((l.getD i 0 : Nat) : Int))).setIfInBounds (i * 2 + 1) x).setIfInBounds (i * 2 + 1) (.int .i64 ((nextF l (l.getD i 0) (i + 1) : Nat) : Int)) = placeCells l i := by
  unfold placeCells
  rw [rowF_set (placeCell l (i + 1)) (fun k => if k = i * 2 then .int .i64 ((l.getD i 0 : Nat) : Int) else placeCell l (i + 1) k) _ _ (fun _ _ => rfl)]
  rw [rowF_set _ (fun k => if k = i * 2 + 1 then x else if k = i * 2 then .int .i64 ((l.getD i 0 : Nat) : Int) else placeCell l (i + 1) k) _ _ (fun _ _ => rfl)]
  refine rowF_set _ _ _ _ fun k hk => ?_
  unfold placeCell
  by_cases h1 : k = i * 2 + 1
  · subst h1
    rw [if_pos rfl, if_neg (by omega), if_neg (by omega), show (i * 2 + 1) / 2 = i by omega]
  · rw [if_neg h1, if_neg h1]
    by_cases h2 : k = i * 2
    · subst h2
      rw [if_pos rfl, if_neg (by omega), if_pos (by omega), show i * 2 / 2 = i by omega]
    · rw [if_neg h2]
      by_cases h3 : k / 2 < i
      · have h4 : k / 2 < i + 1 := by omega
        rw [if_pos h3, if_pos h4]
      · have h4 : ¬ k / 2 < i + 1 := by omega
        rw [if_neg h3, if_neg h4]
theorem next_set (l : List Nat) (i : Nat) (h : i < l.length) : (nextCells l (i + 1)).setIfInBounds (l.getD i 0) (.int .i64 (i : Int)) = nextCells l i := rowF_set _ _ _ _ fun s _ => by
  rw [nextF_step l s i h]
  by_cases hs : l.getD i 0 = s
  · rw [if_pos hs, if_pos hs.symm]
  · rw [if_neg hs, if_neg (fun hc => hs hc.symm)]

structure PlOut (w w' : World) (g : Nat) (l : List Nat) : Prop where
  kept : Kept [] w w'
  ge : w.heap.size ≤ g
  blk : Blk w' g (placeCells l 0) 202

structure Pl1 (w wr : World) (N : Nat) (l : List Nat) (q : Nat) : Prop where
  k : Kept [] w wr
  nb : Blk wr N (rowF 356 fun s => .int .i64 (if s < q then (l.length : Int) else 0)) 200
  gb : Blk wr w.heap.size (placeCells l l.length) 202
  size : N < wr.heap.size
structure Pl2 (w wr : World) (N : Nat) (l : List Nat) (i : Nat) : Prop where
  k : Kept [] w wr
  nb : Blk wr N (nextCells l i) 200
  gb : Blk wr w.heap.size (placeCells l i) 202
theorem Pl1.set {w wr : World} {N : Nat} {l : List Nat} {q : Nat} (h : Pl1 w wr N l q) (hq : q < 356) (hN : w.heap.size < N) : Pl1 w (wr.setCell ⟨N, q, none⟩ (.int .i64 (l.length : Int))) N l (q + 1) := by
  refine ⟨h.k.setCell (Or.inr (by simp; omega)) _, ?_, h.gb.other _ _ (by omega), by simpa using h.size⟩
  have := h.nb.set q (.int .i64 (l.length : Int))
  rwa [rowF_set (n := 356) _ (fun s => .int .i64 (if s < q + 1 then (l.length : Int) else 0)) q _ (fun j _ => by
    by_cases h1 : j = q
    · rw [if_pos h1, if_pos (by omega)]
    · rw [if_neg h1]
      by_cases h2 : j < q
      · have h3 : j < q + 1 := by omega
        rw [if_pos h2, if_pos h3]
      · have h3 : ¬ j < q + 1 := by omega
        rw [if_neg h2, if_neg h3])] at this
theorem Pl1.done {w wr : World} {N : Nat} {l : List Nat} (h : Pl1 w wr N l 356) : Pl2 w wr N l l.length := by
  refine ⟨h.k, ?_, h.gb⟩
  have := h.nb
  rwa [rowF_congr (f' := fun s => .int .i64 ((nextF l s l.length : Nat) : Int)) (fun j hj => by rw [if_pos hj, nextF_end])] at this
theorem Pl2.step {w wr : World} {N : Nat} {l : List Nat} {i : Nat} (h : Pl2 w wr N l (i + 1)) (hi : i < l.length) (hN : w.heap.size < N) (x : Value) :
    Pl2 w ((((wr.setCell ⟨w.heap.size, i * 2, none⟩ (.int .i64 ((l.getD i 0 : Nat) : Int))).setCell ⟨w.heap.size, i * 2 + 1, none⟩ x).setCell ⟨w.heap.size, i * 2 + 1, none⟩ (.int .i64 ((nextF l (l.getD i 0) (i + 1) : Nat) : Int))).setCell ⟨N, l.getD i 0, none⟩ (.int .i64 (i : Int))) N l i := by
  have g1 := ((h.gb.set (i * 2) (.int .i64 ((l.getD i 0 : Nat) : Int))).set (i * 2 + 1) x).set (i * 2 + 1) (.int .i64 ((nextF l (l.getD i 0) (i + 1) : Nat) : Int))
  rw [place_set l i hi x] at g1
  have n1 := (((h.nb.other (b' := w.heap.size) (i * 2) (.int .i64 ((l.getD i 0 : Nat) : Int)) (by omega)).other (b' := w.heap.size) (i * 2 + 1) x (by omega)).other (b' := w.heap.size) (i * 2 + 1) (.int .i64 ((nextF l (l.getD i 0) (i + 1) : Nat) : Int)) (by omega)).set (l.getD i 0) (.int .i64 (i : Int))
  rw [next_set l i hi] at n1
  exact ⟨(((h.k.setCell (Or.inr (by simp)) _).setCell (Or.inr (by simp)) _).setCell (Or.inr (by simp)) _).setCell (Or.inr (by simp; omega)) _, n1, g1.other _ _ (by omega)⟩

set_option maxHeartbeats 4000000 in
set_option maxRecDepth 100000 in
theorem placesOf_any {l : List Nat} {v : Value} {base : Nat} (w : World) (hrow : w.ownsRow base 3 1 v l.length (symCells l)) (hl : l.length ≤ 600) (hs : ∀ s, s ∈ l → s < 356) :
    Calls Try.prog 121 #[v] w fun e w' => ∃ g, e = .returned (.slice (some ⟨g, 0, none⟩) l.length l.length) ∧ PlOut w w' g l := by
  have hz := zeroV_next
  obtain ⟨i0, hi0, hz0, hz1, hz2⟩ := info_parts infoPlace
  obtain ⟨va, vk, vc, rfl⟩ := own_shape hrow
  have hvk : vk = l.length := by
    rcases hrow.2 with ⟨h1, h2⟩ | ⟨g, cap, _, h1, _⟩
    · simp at h1; omega
    · simp at h1; omega
  subst hvk
  have hrowH : Hid (World.ownsRow _ _ _ _ _ _ _) := hrow
  clear hrow
  have mb : l.length ≤ maxLen := by unfold maxLen; omega
  go_enter Try.func121, Try.ntmps121
  go_wp2_with (refine wpList_make_full w rfl (.tmp 9) (.tmp 9) 182 rfl w.heap.size 202 i0 _ 2 Try.underlying182 hi0 hz0 hz1 .i64 .i64 (l.length : Int) (l.length : Int) l.length rfl rfl rfl rfl (by rw [hz2]; omega) mb (Nat.le_refl _) ?_; intro w1 hown hg)
  obtain ⟨N, hN⟩ : ∃ N, w1.heap.size = N := ⟨_, rfl⟩
  have hN : Hid (_ = _) := hN
  have hB : Hid (Blk w1 w.heap.size (placeCells l l.length) 202) := by rw [place_none]; exact made_blk hown
  have hk1 : Hid (Kept [] w w1) := ⟨hg.os, hg.tape, hg.output, hg.size, fun k hk _ => hg.block k hk (by simp)⟩
  have hN2 : w.heap.size < N := by rw [← hN.out]; exact hB.out.lt
  clear hown hg hz
  have hlt0 : Hid (Blk (w1.alloc (.cells (rowF 356 fun _ => .int .i64 0) 200)) N (rowF 356 fun s => .int .i64 (if s < 0 then (l.length : Int) else 0)) 200) := by
    have e : rowF 356 (fun s => Value.int .i64 (if s < 0 then (l.length : Int) else 0)) = rowF 356 fun _ => .int .i64 0 := rowF_congr fun j _ => by simp
    show Blk _ _ _ _; rw [e, ← hN.out]; exact Blk.new _ _ _
  have hst : Hid (Pl1 w (w1.alloc (.cells (rowF 356 fun _ => .int .i64 0) 200)) N l 0) := ⟨hk1.out.alloc _, hlt0.out, hB.out.alloc _, by have := hN.out; simp; omega⟩
  clear hlt0 hB hk1
  rw [hN.out]
  go_loopw [5] (fun iv wr => ∃ q : Nat, iv = .int .i64 (q : Int) ∧ q ≤ 356 ∧ Pl1 w wr N l q) (fun iv _ => (356 - intOf iv).toNat)
  case atStart => exact ⟨0, rfl, by omega, hst.out⟩
  case round =>
    obtain ⟨q, rfl, hq, hI⟩ := hrel
    clear hst
    by_cases hlt : (q : Int) < 356
    · have hqn : q < 356 := by omega
      have c1 := hI.nb.cell q
      rw [rowF_get _ hqn] at c1
      have c2 := hI.nb.frozen q
      have hnext : Hid (Pl1 w (wr.setCell ⟨N, q, none⟩ (.int .i64 (l.length : Int))) N l (q + 1)) := hI.set hqn hN2
      have hst := hI.size
      clear hI
      go_wp2
      refine ⟨⟨q + 1, by go_num, by omega, hnext.out⟩, ?_⟩
      simp only [intOf]; omega
    · have hqe : q = 356 := by omega
      subst hqe
      have hI : Hid (Pl2 w wr N l l.length) := hI.done
      go_wp2
      go_loopw [6] (fun iv wr => ∃ k : Nat, iv = .int .i64 ((k : Int) - 1) ∧ k ≤ l.length ∧ Pl2 w wr N l k) (fun iv _ => (intOf iv + 1).toNat)
      case atStart => exact ⟨l.length, rfl, Nat.le_refl _, hI.out⟩
      case round =>
        obtain ⟨k, rfl, hk, hJ⟩ := hrel
        clear hI
        cases k with
        | zero =>
          have hJ : Hid (Pl2 _ _ _ _ _) := hJ
          go_wp2
          go_ret
          exact ⟨w.heap.size, rfl, hJ.out.k, Nat.le_refl _, hJ.out.gb⟩
        | succ i =>
          have e : ((i + 1 : Nat) : Int) - 1 = (i : Int) := by omega
          rw [e]
          have hi : i < l.length := by omega
          obtain ⟨g, cap, hv⟩ := own_form hrowH.out (by omega)
          have hv2 := hv
          simp only [Value.slice.injEq, true_and] at hv2
          obtain ⟨rfl, rfl⟩ := hv2
          have hr2 := row_stay (S := []) hrowH.out hJ.k (fun _ _ => by simp)
          obtain ⟨s, hsv⟩ : ∃ s, l.getD i 0 = s := ⟨_, rfl⟩
          have hs3 : s < 356 := by
            rw [← hsv]; apply hs
            simp [List.getD, hi]
          have c1 : wr.cell? ⟨g, i, none⟩ = some (.int .i64 (s : Int)) := by
            have := hr2.cells (g := g) rfl i _ (symCells_get l i hi)
            rw [hsv] at this
            rwa [ptr_add] at this
          have c2 := hJ.nb.cell s
          unfold nextCells at c2
          rw [rowF_get _ hs3] at c2
          have c3 := hJ.nb.frozen s
          have d1 := hJ.gb.cell (i * 2)
          unfold placeCells at d1
          rw [rowF_get _ (by omega)] at d1
          have d2 := hJ.gb.cell (i * 2 + 1)
          unfold placeCells at d2
          rw [rowF_get _ (by omega)] at d2
          have d3 := hJ.gb.frozen (i * 2)
          have d4 := hJ.gb.frozen (i * 2 + 1)
          generalize placeCell l (i + 1) (i * 2) = v1 at d1
          generalize placeCell l (i + 1) (i * 2 + 1) = v2 at d2
          have hnext := hJ.step hi hN2 (.int .i64 (l.length : Int))
          rw [hsv] at hnext
          have hnext : Hid (Pl2 _ _ _ _ _) := hnext
          have hne : ¬ N = w.heap.size := by omega
          have hgN : ¬ g = w.heap.size := fun hc => by have := (hrowH.out.lt g rfl).2; omega
          clear hJ e hr2
          have hsv : Hid (_ = _) := hsv
          generalize nextF l s (i + 1) = F at *
          generalize l.length = n at *
          go_wp2
          refine ⟨⟨i, rfl, by omega, hnext.out⟩, ?_⟩
          simp only [intOf]; omega
end Go.Proofs.Ytgifhgnccmnbiaa
