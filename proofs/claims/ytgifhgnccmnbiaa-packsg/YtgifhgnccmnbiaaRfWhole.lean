/- The document's answer: what is told of the whole text, walked. -/
import Derived.Test.YtgifhgnccmnbiaaRfSize
set_option linter.unusedVariables false
set_option linter.unusedSimpArgs false
namespace Go.Proofs.Ytgifhgnccmnbiaa
open Go.RowKit Go.IntWalk

theorem keptOne6 (w : World) (g : Nat) (u0 u1 u2 u3 u4 u5 : Value) : Kept [g] w (set6W w g u0 u1 u2 u3 u4 u5) :=
  ((((((Kept.refl [g] w).setCell (Or.inl (by simp)) _).setCell (Or.inl (by simp)) _).setCell (Or.inl (by simp)) _).setCell (Or.inl (by simp)) _).setCell (Or.inl (by simp)) _).setCell (Or.inl (by simp)) _
/-- A file in memory. -/
structure GM (w : World) (b B C : Nat) (kind : Int) (n : Nat) (rl top : List Nat) (ps : List PI) (rv tv pv : Value) : Prop where
  blk : Blk w b #[.int .i64 kind, .int .i64 (n : Int), rv, tv, pv] 95
  lt : b < B
  up : B ≤ C
  rules : w.ownsRow B 3 1 rv rl.length (symCells rl)
  low : ∀ g, rv.ownBlock = some g → g < C
  top : w.ownsRow C 3 1 tv top.length (symCells top)
  pieces : w.ownsRow B 91 6 pv ps.length (piCells ps)
  small : ∀ x, x ∈ ps → PIsmall x
theorem GM.kept {w w' : World} {b B C : Nat} {kind : Int} {n : Nat} {rl top : List Nat} {ps : List PI} {rv tv pv : Value} (h : GM w b B C kind n rl top ps rv tv pv) (k : Kept [] w w') : GM w' b B C kind n rl top ps rv tv pv :=
  ⟨h.blk.kept k (by simp), h.lt, h.up, row_stay (S := []) h.rules k (fun _ _ => by simp), h.low, row_stay (S := []) h.top k (fun _ _ => by simp), row_stay (S := []) h.pieces k (fun _ _ => by simp), h.small⟩
def wholeR (ps : List PI) (l : List Nat) : PI := l.foldl (fun p s => joinedP p (sizeP ps s)) {}
theorem wholeR_snoc (ps : List PI) (l : List Nat) (s : Nat) : wholeR ps (l ++ [s]) = joinedP (wholeR ps l) (sizeP ps s) := by unfold wholeR; rw [List.foldl_append]; rfl
theorem sizeP_small {ps : List PI} (h : ∀ x, x ∈ ps → PIsmall x) (s : Nat) : PIsmall (sizeP ps s) := by
  unfold sizeP
  split
  · exact ⟨by simp, by simp, by simp⟩
  · split
    · exact ⟨by simp, by simp, by simp⟩
    · rw [List.getD]
      cases hx : ps[s - 256]? with
      | none => exact ⟨by simp, by simp, by simp⟩
      | some x => exact h x (List.mem_of_getElem? hx)
theorem wholeR_small {ps : List PI} (h : ∀ x, x ∈ ps → PIsmall x) : ∀ l : List Nat, PIsmall (wholeR ps l) := fun l => by
  rcases List.eq_nil_or_concat l with rfl | ⟨l', x, rfl⟩
  · exact ⟨by simp [wholeR], by simp [wholeR], by simp [wholeR]⟩
  · rw [List.concat_eq_append, wholeR_snoc]; exact joinedP_small (sizeP_small h x)
theorem symCells_get (l : List Nat) (i : Nat) (hi : i < l.length) : (symCells l)[i]? = some (.int .i64 ((l.getD i 0 : Nat) : Int)) := by simp [symCells, List.getD, hi]

set_option maxHeartbeats 4000000 in
set_option maxRecDepth 100000 in
theorem whole_any {w : World} {b B C : Nat} {kind : Int} {n : Nat} {rl top : List Nat} {ps : List PI} {rv tv pv : Value} (h : GM w b B C kind n rl top ps rv tv pv) (hs : ∀ s, s ∈ top → s < 256 + ps.length) (hl : ps.length ≤ 1000) (ht : top.length ≤ 100000000) :
    Calls Try.prog 51 #[.pointer (some ⟨b, 0, none⟩)] w fun e w' => e = .returned (wholeR ps top).val ∧ Kept [] w w' := by
  have hH : Hid (GM w b B C kind n rl top ps rv tv pv) := h
  have hsH : Hid (∀ s, _) := hs
  obtain ⟨ta, tc, rfl⟩ : ∃ a c, tv = .slice a top.length c := by
    rcases h.top.2 with ⟨h3, h4⟩ | ⟨g, cap, _, h3, _⟩
    · exact ⟨none, 0, by rw [h3, h4]⟩
    · exact ⟨_, cap, h3⟩
  have z0 : Hid (Kept [] w ((w.alloc (.cells #[.int .i64 0, .int .i64 0, .int .i64 0, .slice none 0 0, .slice none 0 0, .int .i64 0] 91)).alloc (.cells #[.int .i64 0, .int .i64 0, .int .i64 0, .slice none 0 0, .slice none 0 0, .int .i64 0] 91))) := ((Kept.refl [] w).alloc _).alloc _
  have z1 : Hid (Blk ((w.alloc (.cells #[.int .i64 0, .int .i64 0, .int .i64 0, .slice none 0 0, .slice none 0 0, .int .i64 0] 91)).alloc (.cells #[.int .i64 0, .int .i64 0, .int .i64 0, .slice none 0 0, .slice none 0 0, .int .i64 0] 91)) w.heap.size #[.int .i64 0, .int .i64 0, .int .i64 0, .slice none 0 0, .slice none 0 0, .int .i64 0] 91) := (Blk.new w _ _).alloc _
  have z2 : Hid (Blk ((w.alloc (.cells #[.int .i64 0, .int .i64 0, .int .i64 0, .slice none 0 0, .slice none 0 0, .int .i64 0] 91)).alloc (.cells #[.int .i64 0, .int .i64 0, .int .i64 0, .slice none 0 0, .slice none 0 0, .int .i64 0] 91)) (w.heap.size + 1) #[.int .i64 0, .int .i64 0, .int .i64 0, .slice none 0 0, .slice none 0 0, .int .i64 0] 91) := by
    have e : (w.alloc (.cells #[.int .i64 0, .int .i64 0, .int .i64 0, .slice none 0 0, .slice none 0 0, .int .i64 0] 91)).heap.size = w.heap.size + 1 := by simp
    have := Blk.new (w.alloc (.cells #[.int .i64 0, .int .i64 0, .int .i64 0, .slice none 0 0, .slice none 0 0, .int .i64 0] 91)) #[.int .i64 0, .int .i64 0, .int .i64 0, .slice none 0 0, .slice none 0 0, .int .i64 0] 91
    rwa [e] at this
  clear h hs
  go_enter Try.func51, Try.ntmps51
  go_wp2_with fail
  go_loopw [4, 5] (fun iv _ wr => ∃ k : Nat, iv = .int .i64 (k : Int) ∧ k ≤ top.length ∧ Kept [] w wr ∧ Blk wr w.heap.size #[.int .i64 0, .int .i64 0, .int .i64 0, .slice none 0 0, .slice none 0 0, .int .i64 0] 91 ∧ Blk wr (w.heap.size + 1) (wholeR ps (top.take k)).arr 91) (fun iv _ _ => ((top.length : Int) - intOf iv).toNat)
  case atStart => exact ⟨0, rfl, Nat.zero_le _, z0.out, z1.out, z2.out⟩
  case round =>
    obtain ⟨k, rfl, hk, hkw, hb0, hb1⟩ := hrel
    have hkwH : Hid (Kept _ _ _) := hkw
    have hGr : GM wr b B C kind n rl top ps rv (.slice ta top.length tc) pv := hH.out.kept hkw
    have c3 : wr.cell? ⟨b, 3, none⟩ = some (.slice ta top.length tc) := hGr.blk.cell 3
    have hbl : b < wr.heap.size := hGr.blk.lt
    have hsmW := wholeR_small hH.out.small (top.take k)
    have hsmWH : Hid (PIsmall _) := hsmW
    have hb0H : Hid (Blk _ _ _ _) := hb0
    have hb1H : Hid (Blk _ _ _ _) := hb1
    have hGrH : Hid (GM wr b B C kind n rl top ps rv (.slice ta top.length tc) pv) := hGr
    by_cases hlt : (k : Int) < (top.length : Int)
    · obtain ⟨tg, cap, he⟩ := own_form hGr.top (by omega)
      cases he
      obtain ⟨s, hsE⟩ : ∃ s, s = top.getD k 0 := ⟨_, rfl⟩
      have hcell : wr.cell? ⟨tg, k, none⟩ = some (.int .i64 (s : Int)) := by
        have := hGr.top.cells (g := tg) rfl k (.int .i64 ((top.getD k 0 : Nat) : Int)) (symCells_get _ _ (by omega))
        rwa [ptr_add, ← hsE] at this
      have hsB : s < 256 + ps.length := hsH.out s (by rw [hsE, List.getD, List.getElem?_eq_getElem (by omega)]; exact List.getElem_mem _)
      have hnx : Hid (wholeR ps (top.take (k + 1)) = joinedP (wholeR ps (top.take k)) (sizeP ps s)) := by
        show _ = _
        rw [List.take_add_one, show top[k]? = some s by rw [hsE, List.getD, List.getElem?_eq_getElem (by omega)]; rfl]
        exact wholeR_snoc _ _ _
      have hsz : Hid (∀ w', Kept [] wr w' → Calls _ _ _ w' _) := fun w' k' => psize_any (hGrH.out.kept k').blk (hGrH.out.kept k').pieces s hsB hl
      have hsS : Hid (PIsmall (sizeP ps s)) := sizeP_small hH.out.small s
      have hjn : Hid (∀ w', Calls _ _ _ w' _) := fun w' => joined_any (wholeR ps (top.take k)) (sizeP ps s) hsmWH.out hsS.out w'
      have hjS : Hid (PIsmall (joinedP (wholeR ps (top.take k)) (sizeP ps s))) := joinedP_small hsS.out
      clear hsE hsB hsmW hkw hb0 hb1 hGr
      generalize joinedP (wholeR ps (top.take k)) (sizeP ps s) = J at *
      generalize wholeR ps (top.take k) = A at *
      generalize sizeP ps s = S at *
      obtain ⟨A1, A2, A3⟩ := A
      obtain ⟨S1, S2, S3⟩ := S
      obtain ⟨J1, J2, J3⟩ := J
      unfold PI.val PI.arr at hjn
      unfold PI.val PI.arr at hsz
      unfold PI.arr at hb1H
      simp only [] at hjn hsz hb1H
      go_wp2_with fail
      refine (hsz.out _ (Kept.refl _ _)).mono ?_
      rintro e w2 ⟨rfl, k2⟩
      have hb0' := hb0H.out.kept k2 (by simp)
      have hb1' := hb1H.out.kept k2 (by simp)
      have d0 : w2.cell? ⟨w.heap.size + 1, 0, none⟩ = some (.int .i64 (A1 : Int)) := hb1'.cell 0
      have d1 : w2.cell? ⟨w.heap.size + 1, 1, none⟩ = some (.int .i64 (A2 : Int)) := hb1'.cell 1
      have d2 : w2.cell? ⟨w.heap.size + 1, 2, none⟩ = some (.int .i64 (A3 : Int)) := hb1'.cell 2
      have d3 : w2.cell? ⟨w.heap.size + 1, 3, none⟩ = some (.slice none 0 0) := hb1'.cell 3
      have d4 : w2.cell? ⟨w.heap.size + 1, 4, none⟩ = some (.slice none 0 0) := hb1'.cell 4
      have d5 : w2.cell? ⟨w.heap.size + 1, 5, none⟩ = some (.int .i64 0) := hb1'.cell 5
      have hlt2 : w.heap.size + 1 < w2.heap.size := hb1'.lt
      have k2H : Hid (Kept _ _ _) := hkwH.out.trans k2
      have hb0'H : Hid (Blk _ _ _ _) := hb0'
      have hb1'H : Hid (Blk _ _ _ _) := hb1'
      clear hb0' hb1' k2 hsz hb0H hb1H hkwH c3 hcell hGrH
      go_wp2_with fail
      refine (hjn.out _).mono ?_
      rintro e w3 ⟨rfl, k3⟩
      have k23 : Kept [] w2 w3 := ((Kept.refl [] w2).alloc _).trans k3
      have hb0 := hb0'H.out.kept k23 (by simp)
      have hb1 := hb1'H.out.kept k23 (by simp)
      have f0 : w3.frozen? ⟨w.heap.size + 1, 0, none⟩ = false := hb1.frozen 0
      have f1 : w3.frozen? ⟨w.heap.size + 1, 1, none⟩ = false := hb1.frozen 1
      have f2 : w3.frozen? ⟨w.heap.size + 1, 2, none⟩ = false := hb1.frozen 2
      have f3 : w3.frozen? ⟨w.heap.size + 1, 3, none⟩ = false := hb1.frozen 3
      have f4 : w3.frozen? ⟨w.heap.size + 1, 4, none⟩ = false := hb1.frozen 4
      have f5 : w3.frozen? ⟨w.heap.size + 1, 5, none⟩ = false := hb1.frozen 5
      have e0 : w3.cell? ⟨w.heap.size + 1, 0, none⟩ = some (.int .i64 (A1 : Int)) := hb1.cell 0
      have e1 : w3.cell? ⟨w.heap.size + 1, 1, none⟩ = some (.int .i64 (A2 : Int)) := hb1.cell 1
      have e2 : w3.cell? ⟨w.heap.size + 1, 2, none⟩ = some (.int .i64 (A3 : Int)) := hb1.cell 2
      have e3 : w3.cell? ⟨w.heap.size + 1, 3, none⟩ = some (.slice none 0 0) := hb1.cell 3
      have e4 : w3.cell? ⟨w.heap.size + 1, 4, none⟩ = some (.slice none 0 0) := hb1.cell 4
      have e5 : w3.cell? ⟨w.heap.size + 1, 5, none⟩ = some (.int .i64 0) := hb1.cell 5
      have hlt3 : w.heap.size + 1 < w3.heap.size := hb1.lt
      have hfin : Hid (∀ u0 u1 u2 u3 u4 u5, Kept [] w (set6W w3 (w.heap.size + 1) u0 u1 u2 u3 u4 u5) ∧ Blk (set6W w3 (w.heap.size + 1) u0 u1 u2 u3 u4 u5) w.heap.size #[.int .i64 0, .int .i64 0, .int .i64 0, .slice none 0 0, .slice none 0 0, .int .i64 0] 91 ∧ Blk (set6W w3 (w.heap.size + 1) u0 u1 u2 u3 u4 u5) (w.heap.size + 1) #[u0, u1, u2, u3, u4, u5] 91) := fun u0 u1 u2 u3 u4 u5 =>
        ⟨kept6 (k2H.out.trans k23) (by omega) _ _ _ _ _ _, hb0.kept (keptOne6 w3 (w.heap.size + 1) u0 u1 u2 u3 u4 u5) (by simp), set6 hb1 u0 u1 u2 u3 u4 u5⟩
      unfold set6W at hfin
      clear hb0 hb1 k23 k3 hb0'H hb1'H k2H d0 d1 d2 d3 d4 d5
      go_wp2
      refine ⟨⟨k + 1, by go_num, by omega, (hfin.out _ _ _ _ _ _).1, (hfin.out _ _ _ _ _ _).2.1, by rw [hnx.out]; exact (hfin.out _ _ _ _ _ _).2.2⟩, ?_⟩
      simp only [intOf]; omega
    · have hke : k = top.length := by omega
      have hWe : Hid (wholeR ps (top.take k) = wholeR ps top) := by show _ = _; rw [hke, List.take_length]
      rw [hWe.out] at hb1H hsmW hsmWH hb1
      clear hke hWe hb1H hsmW hsmWH
      obtain ⟨A, hA⟩ : ∃ A, A = wholeR ps top := ⟨_, rfl⟩
      rw [← hA] at hb1
      have hAH : Hid (A = _) := hA
      clear hA
      obtain ⟨A1, A2, A3⟩ := A
      unfold PI.arr at hb1
      simp only [] at hb1
      have d0 : wr.cell? ⟨w.heap.size + 1, 0, none⟩ = some (.int .i64 (A1 : Int)) := hb1.cell 0
      have d1 : wr.cell? ⟨w.heap.size + 1, 1, none⟩ = some (.int .i64 (A2 : Int)) := hb1.cell 1
      have d2 : wr.cell? ⟨w.heap.size + 1, 2, none⟩ = some (.int .i64 (A3 : Int)) := hb1.cell 2
      have d3 : wr.cell? ⟨w.heap.size + 1, 3, none⟩ = some (.slice none 0 0) := hb1.cell 3
      have d4 : wr.cell? ⟨w.heap.size + 1, 4, none⟩ = some (.slice none 0 0) := hb1.cell 4
      have d5 : wr.cell? ⟨w.heap.size + 1, 5, none⟩ = some (.int .i64 0) := hb1.cell 5
      have e0 : wr.cell? ⟨w.heap.size, 0, none⟩ = some (.int .i64 0) := hb0.cell 0
      have e1 : wr.cell? ⟨w.heap.size, 1, none⟩ = some (.int .i64 0) := hb0.cell 1
      have e2 : wr.cell? ⟨w.heap.size, 2, none⟩ = some (.int .i64 0) := hb0.cell 2
      have e3 : wr.cell? ⟨w.heap.size, 3, none⟩ = some (.slice none 0 0) := hb0.cell 3
      have e4 : wr.cell? ⟨w.heap.size, 4, none⟩ = some (.slice none 0 0) := hb0.cell 4
      have e5 : wr.cell? ⟨w.heap.size, 5, none⟩ = some (.int .i64 0) := hb0.cell 5
      have f0 : wr.frozen? ⟨w.heap.size, 0, none⟩ = false := hb0.frozen 0
      have f1 : wr.frozen? ⟨w.heap.size, 1, none⟩ = false := hb0.frozen 1
      have f2 : wr.frozen? ⟨w.heap.size, 2, none⟩ = false := hb0.frozen 2
      have f3 : wr.frozen? ⟨w.heap.size, 3, none⟩ = false := hb0.frozen 3
      have f4 : wr.frozen? ⟨w.heap.size, 4, none⟩ = false := hb0.frozen 4
      have f5 : wr.frozen? ⟨w.heap.size, 5, none⟩ = false := hb0.frozen 5
      have hl0 : w.heap.size + 1 < wr.heap.size := hb1.lt
      have hfin : Hid (∀ u0 u1 u2 u3 u4 u5, Blk (set6W wr w.heap.size u0 u1 u2 u3 u4 u5) w.heap.size #[u0, u1, u2, u3, u4, u5] 91 ∧ Kept [] w (set6W wr w.heap.size u0 u1 u2 u3 u4 u5)) := fun u0 u1 u2 u3 u4 u5 =>
        ⟨set6 hb0 u0 u1 u2 u3 u4 u5, kept6 hkw (Nat.le_refl _) _ _ _ _ _ _⟩
      unfold set6W at hfin
      clear hb0 hb1 hkw hb0H hGr hGrH hkwH z0 z1 z2
      go_wp2
      exact bodyPost_ret (v := .agg #[.int .i64 A1, .int .i64 A2, .int .i64 A3, .slice none 0 0, .slice none 0 0, .int .i64 0]) (results_piece Try.results51 _ _ w.heap.size ⟨A1, A2, A3⟩ rfl (hfin.out _ _ _ _ _ _).1) rfl ⟨by rw [← hAH.out]; rfl, (hfin.out _ _ _ _ _ _).2⟩

end Go.Proofs.Ytgifhgnccmnbiaa
