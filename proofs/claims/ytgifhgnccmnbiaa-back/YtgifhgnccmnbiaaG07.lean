/- The document's answer: what is told of the whole text, walked. -/
import Derived.Test.YtgifhgnccmnbiaaG06
import Derived.Laws.IdiomStrings
import Derived.Lib.AppendStr
set_option linter.unusedVariables false
set_option linter.unusedSimpArgs false
namespace Go.Proofs.Ytgifhgnccmnbiaa
open Go.RowKit Go.IntWalk

theorem keptOne6 (w : World) (g : Nat) (u0 u1 u2 u3 u4 u5 : Value) : Kept [g] w (set6W w g u0 u1 u2 u3 u4 u5) :=
  ((((((Kept.refl [g] w).setCell (Or.inl (by simp)) _).setCell (Or.inl (by simp)) _).setCell (Or.inl (by simp)) _).setCell (Or.inl (by simp)) _).setCell (Or.inl (by simp)) _).setCell (Or.inl (by simp)) _
/-- A file in memory. -/
structure GM (w : World) (b B C : Nat) (kind : Int) (n : Nat) (rl top : List Nat) (ps : List PI) (rv tv pv : Value) : Prop where
  blk : Blk w b #[.int .i64 kind, .int .i64 (n : Int), rv, tv, pv] 95
  lt : b < B
  up : B ≤ C
  rules : w.ownsRow B 3 1 rv rl.length (symCells rl)
  low : ∀ g, rv.ownBlock = some g → g < C
  top : w.ownsRow C 3 1 tv top.length (symCells top)
  pieces : w.ownsRow B 91 6 pv ps.length (piCells ps)
  small : ∀ x, x ∈ ps → PIsmall x
theorem GM.kept {w w' : World} {b B C : Nat} {kind : Int} {n : Nat} {rl top : List Nat} {ps : List PI} {rv tv pv : Value} (h : GM w b B C kind n rl top ps rv tv pv) (k : Kept [] w w') : GM w' b B C kind n rl top ps rv tv pv :=
  ⟨h.blk.kept k (by simp), h.lt, h.up, row_stay (S := []) h.rules k (fun _ _ => by simp), h.low, row_stay (S := []) h.top k (fun _ _ => by simp), row_stay (S := []) h.pieces k (fun _ _ => by simp), h.small⟩
def wholeR (ps : List PI) (l : List Nat) : PI := l.foldl (fun p s => joinedP p (sizeP ps s)) {}
theorem wholeR_snoc (ps : List PI) (l : List Nat) (s : Nat) : wholeR ps (l ++ [s]) = joinedP (wholeR ps l) (sizeP ps s) := by unfold wholeR; rw [List.foldl_append]; rfl
theorem sizeP_small {ps : List PI} (h : ∀ x, x ∈ ps → PIsmall x) (s : Nat) : PIsmall (sizeP ps s) := by
  unfold sizeP
  split
  · exact ⟨by simp, by simp, by simp⟩
  · split
    · exact ⟨by simp, by simp, by simp⟩
    · rw [List.getD]
      cases hx : ps[s - 256]? with
      | none => exact ⟨by simp, by simp, by simp⟩
      | some x => exact h x (List.mem_of_getElem? hx)
theorem wholeR_small {ps : List PI} (h : ∀ x, x ∈ ps → PIsmall x) : ∀ l : List Nat, PIsmall (wholeR ps l) := fun l => by
  rcases List.eq_nil_or_concat l with rfl | ⟨l', x, rfl⟩
  · exact ⟨by simp [wholeR], by simp [wholeR], by simp [wholeR]⟩
  · rw [List.concat_eq_append, wholeR_snoc]; exact joinedP_small (sizeP_small h x)
theorem symCells_get (l : List Nat) (i : Nat) (hi : i < l.length) : (symCells l)[i]? = some (.int .i64 ((l.getD i 0 : Nat) : Int)) := by simp [symCells, List.getD, hi]

set_option maxHeartbeats 4000000 in
set_option maxRecDepth 100000 in
theorem whole_any {w : World} {b B C : Nat} {kind : Int} {n : Nat} {rl top : List Nat} {ps : List PI} {rv tv pv : Value} (h : GM w b B C kind n rl top ps rv tv pv) (hs : ∀ s, s ∈ top → s < 256 + ps.length) (hl : ps.length ≤ 1000) (ht : top.length ≤ 100000000) :
    Calls Try.prog 51 #[.pointer (some ⟨b, 0, none⟩)] w fun e w' => e = .returned (wholeR ps top).val ∧ Kept [] w w' := by
  have hH : Hid (GM w b B C kind n rl top ps rv tv pv) := h
  have hsH : Hid (∀ s, _) := hs
  obtain ⟨ta, tc, rfl⟩ : ∃ a c, tv = .slice a top.length c := by
    rcases h.top.2 with ⟨h3, h4⟩ | ⟨g, cap, _, h3, _⟩
    · exact ⟨none, 0, by rw [h3, h4]⟩
    · exact ⟨_, cap, h3⟩
  have z0 : Hid (Kept [] w ((w.alloc (.cells #[.int .i64 0, .int .i64 0, .int .i64 0, .slice none 0 0, .slice none 0 0, .int .i64 0] 91)).alloc (.cells #[.int .i64 0, .int .i64 0, .int .i64 0, .slice none 0 0, .slice none 0 0, .int .i64 0] 91))) := ((Kept.refl [] w).alloc _).alloc _
  have z1 : Hid (Blk ((w.alloc (.cells #[.int .i64 0, .int .i64 0, .int .i64 0, .slice none 0 0, .slice none 0 0, .int .i64 0] 91)).alloc (.cells #[.int .i64 0, .int .i64 0, .int .i64 0, .slice none 0 0, .slice none 0 0, .int .i64 0] 91)) w.heap.size #[.int .i64 0, .int .i64 0, .int .i64 0, .slice none 0 0, .slice none 0 0, .int .i64 0] 91) := (Blk.new w _ _).alloc _
  have z2 : Hid (Blk ((w.alloc (.cells #[.int .i64 0, .int .i64 0, .int .i64 0, .slice none 0 0, .slice none 0 0, .int .i64 0] 91)).alloc (.cells #[.int .i64 0, .int .i64 0, .int .i64 0, .slice none 0 0, .slice none 0 0, .int .i64 0] 91)) (w.heap.size + 1) #[.int .i64 0, .int .i64 0, .int .i64 0, .slice none 0 0, .slice none 0 0, .int .i64 0] 91) := by
    have e : (w.alloc (.cells #[.int .i64 0, .int .i64 0, .int .i64 0, .slice none 0 0, .slice none 0 0, .int .i64 0] 91)).heap.size = w.heap.size + 1 := by simp
    have := Blk.new (w.alloc (.cells #[.int .i64 0, .int .i64 0, .int .i64 0, .slice none 0 0, .slice none 0 0, .int .i64 0] 91)) #[.int .i64 0, .int .i64 0, .int .i64 0, .slice none 0 0, .slice none 0 0, .int .i64 0] 91
    rwa [e] at this
  clear h hs
  go_enter Try.func51, Try.ntmps51
  go_wp2_with fail
  go_loopw [4, 5] (fun iv _ wr => ∃ k : Nat, iv = .int .i64 (k : Int) ∧ k ≤ top.length ∧ Kept [] w wr ∧ Blk wr w.heap.size #[.int .i64 0, .int .i64 0, .int .i64 0, .slice none 0 0, .slice none 0 0, .int .i64 0] 91 ∧ Blk wr (w.heap.size + 1) (wholeR ps (top.take k)).arr 91) (fun iv _ _ => ((top.length : Int) - intOf iv).toNat)
  case atStart => exact ⟨0, rfl, Nat.zero_le _, z0.out, z1.out, z2.out⟩
  case round =>
    obtain ⟨k, rfl, hk, hkw, hb0, hb1⟩ := hrel
    have hkwH : Hid (Kept _ _ _) := hkw
    have hGr : GM wr b B C kind n rl top ps rv (.slice ta top.length tc) pv := hH.out.kept hkw
    have c3 : wr.cell? ⟨b, 3, none⟩ = some (.slice ta top.length tc) := hGr.blk.cell 3
    have hbl : b < wr.heap.size := hGr.blk.lt
    have hsmW := wholeR_small hH.out.small (top.take k)
    have hsmWH : Hid (PIsmall _) := hsmW
    have hb0H : Hid (Blk _ _ _ _) := hb0
    have hb1H : Hid (Blk _ _ _ _) := hb1
    have hGrH : Hid (GM wr b B C kind n rl top ps rv (.slice ta top.length tc) pv) := hGr
    by_cases hlt : (k : Int) < (top.length : Int)
    · obtain ⟨tg, cap, he⟩ := own_form hGr.top (by omega)
      cases he
      obtain ⟨s, hsE⟩ : ∃ s, s = top.getD k 0 := ⟨_, rfl⟩
      have hcell : wr.cell? ⟨tg, k, none⟩ = some (.int .i64 (s : Int)) := by
        have := hGr.top.cells (g := tg) rfl k (.int .i64 ((top.getD k 0 : Nat) : Int)) (symCells_get _ _ (by omega))
        rwa [ptr_add, ← hsE] at this
      have hsB : s < 256 + ps.length := hsH.out s (by rw [hsE, List.getD, List.getElem?_eq_getElem (by omega)]; exact List.getElem_mem _)
      have hnx : Hid (wholeR ps (top.take (k + 1)) = joinedP (wholeR ps (top.take k)) (sizeP ps s)) := by
        show _ = _
        rw [List.take_add_one, show top[k]? = some s by rw [hsE, List.getD, List.getElem?_eq_getElem (by omega)]; rfl]
        exact wholeR_snoc _ _ _
      have hsz : Hid (∀ w', Kept [] wr w' → Calls _ _ _ w' _) := fun w' k' => psize_any (hGrH.out.kept k').blk (hGrH.out.kept k').pieces s hsB hl
      have hsS : Hid (PIsmall (sizeP ps s)) := sizeP_small hH.out.small s
      have hjn : Hid (∀ w', Calls _ _ _ w' _) := fun w' => joined_any (wholeR ps (top.take k)) (sizeP ps s) hsmWH.out hsS.out w'
      have hjS : Hid (PIsmall (joinedP (wholeR ps (top.take k)) (sizeP ps s))) := joinedP_small hsS.out
      clear hsE hsB hsmW hkw hb0 hb1 hGr
      generalize joinedP (wholeR ps (top.take k)) (sizeP ps s) = J at *
      generalize wholeR ps (top.take k) = A at *
      generalize sizeP ps s = S at *
      obtain ⟨A1, A2, A3⟩ := A
      obtain ⟨S1, S2, S3⟩ := S
      obtain ⟨J1, J2, J3⟩ := J
      unfold PI.val PI.arr at hjn
      unfold PI.val PI.arr at hsz
      unfold PI.arr at hb1H
      simp only [] at hjn hsz hb1H
      go_wp2_with fail
      refine (hsz.out _ (Kept.refl _ _)).mono ?_
      rintro e w2 ⟨rfl, k2⟩
      have hb0' := hb0H.out.kept k2 (by simp)
      have hb1' := hb1H.out.kept k2 (by simp)
      have d0 : w2.cell? ⟨w.heap.size + 1, 0, none⟩ = some (.int .i64 (A1 : Int)) := hb1'.cell 0
      have d1 : w2.cell? ⟨w.heap.size + 1, 1, none⟩ = some (.int .i64 (A2 : Int)) := hb1'.cell 1
      have d2 : w2.cell? ⟨w.heap.size + 1, 2, none⟩ = some (.int .i64 (A3 : Int)) := hb1'.cell 2
      have d3 : w2.cell? ⟨w.heap.size + 1, 3, none⟩ = some (.slice none 0 0) := hb1'.cell 3
      have d4 : w2.cell? ⟨w.heap.size + 1, 4, none⟩ = some (.slice none 0 0) := hb1'.cell 4
      have d5 : w2.cell? ⟨w.heap.size + 1, 5, none⟩ = some (.int .i64 0) := hb1'.cell 5
      have hlt2 : w.heap.size + 1 < w2.heap.size := hb1'.lt
      have k2H : Hid (Kept _ _ _) := hkwH.out.trans k2
      have hb0'H : Hid (Blk _ _ _ _) := hb0'
      have hb1'H : Hid (Blk _ _ _ _) := hb1'
      clear hb0' hb1' k2 hsz hb0H hb1H hkwH c3 hcell hGrH
      go_wp2_with fail
      refine (hjn.out _).mono ?_
      rintro e w3 ⟨rfl, k3⟩
      have k23 : Kept [] w2 w3 := ((Kept.refl [] w2).alloc _).trans k3
      have hb0 := hb0'H.out.kept k23 (by simp)
      have hb1 := hb1'H.out.kept k23 (by simp)
      have f0 : w3.frozen? ⟨w.heap.size + 1, 0, none⟩ = false := hb1.frozen 0
      have f1 : w3.frozen? ⟨w.heap.size + 1, 1, none⟩ = false := hb1.frozen 1
      have f2 : w3.frozen? ⟨w.heap.size + 1, 2, none⟩ = false := hb1.frozen 2
      have f3 : w3.frozen? ⟨w.heap.size + 1, 3, none⟩ = false := hb1.frozen 3
      have f4 : w3.frozen? ⟨w.heap.size + 1, 4, none⟩ = false := hb1.frozen 4
      have f5 : w3.frozen? ⟨w.heap.size + 1, 5, none⟩ = false := hb1.frozen 5
      have e0 : w3.cell? ⟨w.heap.size + 1, 0, none⟩ = some (.int .i64 (A1 : Int)) := hb1.cell 0
      have e1 : w3.cell? ⟨w.heap.size + 1, 1, none⟩ = some (.int .i64 (A2 : Int)) := hb1.cell 1
      have e2 : w3.cell? ⟨w.heap.size + 1, 2, none⟩ = some (.int .i64 (A3 : Int)) := hb1.cell 2
      have e3 : w3.cell? ⟨w.heap.size + 1, 3, none⟩ = some (.slice none 0 0) := hb1.cell 3
      have e4 : w3.cell? ⟨w.heap.size + 1, 4, none⟩ = some (.slice none 0 0) := hb1.cell 4
      have e5 : w3.cell? ⟨w.heap.size + 1, 5, none⟩ = some (.int .i64 0) := hb1.cell 5
      have hlt3 : w.heap.size + 1 < w3.heap.size := hb1.lt
      have hfin : Hid (∀ u0 u1 u2 u3 u4 u5, Kept [] w (set6W w3 (w.heap.size + 1) u0 u1 u2 u3 u4 u5) ∧ Blk (set6W w3 (w.heap.size + 1) u0 u1 u2 u3 u4 u5) w.heap.size #[.int .i64 0, .int .i64 0, .int .i64 0, .slice none 0 0, .slice none 0 0, .int .i64 0] 91 ∧ Blk (set6W w3 (w.heap.size + 1) u0 u1 u2 u3 u4 u5) (w.heap.size + 1) #[u0, u1, u2, u3, u4, u5] 91) := fun u0 u1 u2 u3 u4 u5 =>
        ⟨kept6 (k2H.out.trans k23) (by omega) _ _ _ _ _ _, hb0.kept (keptOne6 w3 (w.heap.size + 1) u0 u1 u2 u3 u4 u5) (by simp), set6 hb1 u0 u1 u2 u3 u4 u5⟩
      unfold set6W at hfin
      clear hb0 hb1 k23 k3 hb0'H hb1'H k2H d0 d1 d2 d3 d4 d5
      go_wp2
      refine ⟨⟨k + 1, by go_num, by omega, (hfin.out _ _ _ _ _ _).1, (hfin.out _ _ _ _ _ _).2.1, by rw [hnx.out]; exact (hfin.out _ _ _ _ _ _).2.2⟩, ?_⟩
      simp only [intOf]; omega
    · have hke : k = top.length := by omega
      have hWe : Hid (wholeR ps (top.take k) = wholeR ps top) := by show _ = _; rw [hke, List.take_length]
      rw [hWe.out] at hb1H hsmW hsmWH hb1
      clear hke hWe hb1H hsmW hsmWH
      obtain ⟨A, hA⟩ : ∃ A, A = wholeR ps top := ⟨_, rfl⟩
      rw [← hA] at hb1
      have hAH : Hid (A = _) := hA
      clear hA
      obtain ⟨A1, A2, A3⟩ := A
      unfold PI.arr at hb1
      simp only [] at hb1
      have d0 : wr.cell? ⟨w.heap.size + 1, 0, none⟩ = some (.int .i64 (A1 : Int)) := hb1.cell 0
      have d1 : wr.cell? ⟨w.heap.size + 1, 1, none⟩ = some (.int .i64 (A2 : Int)) := hb1.cell 1
      have d2 : wr.cell? ⟨w.heap.size + 1, 2, none⟩ = some (.int .i64 (A3 : Int)) := hb1.cell 2
      have d3 : wr.cell? ⟨w.heap.size + 1, 3, none⟩ = some (.slice none 0 0) := hb1.cell 3
      have d4 : wr.cell? ⟨w.heap.size + 1, 4, none⟩ = some (.slice none 0 0) := hb1.cell 4
      have d5 : wr.cell? ⟨w.heap.size + 1, 5, none⟩ = some (.int .i64 0) := hb1.cell 5
      have e0 : wr.cell? ⟨w.heap.size, 0, none⟩ = some (.int .i64 0) := hb0.cell 0
      have e1 : wr.cell? ⟨w.heap.size, 1, none⟩ = some (.int .i64 0) := hb0.cell 1
      have e2 : wr.cell? ⟨w.heap.size, 2, none⟩ = some (.int .i64 0) := hb0.cell 2
      have e3 : wr.cell? ⟨w.heap.size, 3, none⟩ = some (.slice none 0 0) := hb0.cell 3
      have e4 : wr.cell? ⟨w.heap.size, 4, none⟩ = some (.slice none 0 0) := hb0.cell 4
      have e5 : wr.cell? ⟨w.heap.size, 5, none⟩ = some (.int .i64 0) := hb0.cell 5
      have f0 : wr.frozen? ⟨w.heap.size, 0, none⟩ = false := hb0.frozen 0
      have f1 : wr.frozen? ⟨w.heap.size, 1, none⟩ = false := hb0.frozen 1
      have f2 : wr.frozen? ⟨w.heap.size, 2, none⟩ = false := hb0.frozen 2
      have f3 : wr.frozen? ⟨w.heap.size, 3, none⟩ = false := hb0.frozen 3
      have f4 : wr.frozen? ⟨w.heap.size, 4, none⟩ = false := hb0.frozen 4
      have f5 : wr.frozen? ⟨w.heap.size, 5, none⟩ = false := hb0.frozen 5
      have hl0 : w.heap.size + 1 < wr.heap.size := hb1.lt
      have hfin : Hid (∀ u0 u1 u2 u3 u4 u5, Blk (set6W wr w.heap.size u0 u1 u2 u3 u4 u5) w.heap.size #[u0, u1, u2, u3, u4, u5] 91 ∧ Kept [] w (set6W wr w.heap.size u0 u1 u2 u3 u4 u5)) := fun u0 u1 u2 u3 u4 u5 =>
        ⟨set6 hb0 u0 u1 u2 u3 u4 u5, kept6 hkw (Nat.le_refl _) _ _ _ _ _ _⟩
      unfold set6W at hfin
      clear hb0 hb1 hkw hb0H hGr hGrH hkwH z0 z1 z2
      go_wp2
      exact bodyPost_ret (v := .agg #[.int .i64 A1, .int .i64 A2, .int .i64 A3, .slice none 0 0, .slice none 0 0, .int .i64 0]) (results_piece Try.results51 _ _ w.heap.size ⟨A1, A2, A3⟩ rfl (hfin.out _ _ _ _ _ _).1) rfl ⟨by rw [← hAH.out]; rfl, (hfin.out _ _ _ _ _ _).2⟩

end Go.Proofs.Ytgifhgnccmnbiaa

set_option linter.unusedVariables false
set_option linter.unusedSimpArgs false
namespace Go.Proofs.Ytgifhgnccmnbiaa
open Go.RowKit Go.IntWalk

theorem bt_sfx (f : ByteArray) (h : 3 ≤ f.size) (i : Nat) : bt (f.extract 3 f.size) i = bt f (3 + i) := by
  unfold bt
  by_cases hi : 3 + i < f.size
  · rw [dif_pos (by simp; omega), dif_pos hi]
    congr 1
    show (f.extract 3 f.size).data[i]'_ = f.data[3 + i]'_
    simp
  · rw [dif_neg (by simp; omega), dif_neg hi]

set_option maxHeartbeats 1000000 in
set_option maxRecDepth 100000 in
theorem rbit_any (f : ByteArray) (hf : f.size ≤ 100000) (p : Nat) (hp : 3 + p / 8 < f.size) (w : World) :
    Calls Try.prog 113 #[.string f, .int .i64 (p : Int)] w fun e w' => e = .returned (.int .i64 (bitP (f.extract 3 f.size) p : Int)) ∧ w' = w := by
  obtain ⟨q, hq⟩ : ∃ q, q = p / 8 := ⟨_, rfl⟩
  rw [← hq] at hp
  have hqH : Hid (q = p / 8) := hq
  have e : Hid ((bitP (f.extract 3 f.size) p : Int) = (f[3 + q].toNat / 2 ^ (p % 8) % 2 : Nat)) := by
    show (_ : Int) = _
    unfold bitP
    rw [bt_sfx f (by omega), ← hq, bt_lt hp]
  have ediv : (p : Int).tdiv 8 = (q : Int) := by rw [hq]; exact Int.ofNat_tdiv p 8 |>.symm
  have emod : (p : Int).tmod 8 = ((p % 8 : Nat) : Int) := (Int.ofNat_tmod p 8).symm
  have g1 : (3 : Int) + (q : Int) < (f.size : Int) := by omega
  have g2 : (0 : Int) ≤ 3 + (q : Int) := by omega
  have q2 : q ≤ 1000000 := by omega
  have hpb : p ≤ 10000000 := by omega
  have hb := f[3 + q].toNat_lt
  have e1 : IntKind.i64.wrap (f[3 + q].toNat : Int) = (f[3 + q].toNat : Int) := by rw [IntKind.wrap_i64]; omega
  clear hq
  go_enter Try.func113, Try.ntmps113
  go_wp2
  go_ret
  refine ⟨ret_int ?_, rfl⟩
  rw [e.out]
  have hle : f[3 + q].toNat / 2 ^ (p % 8) ≤ f[3 + q].toNat := Nat.div_le_self _ _
  have := and_one (f[3 + q].toNat / 2 ^ (p % 8)) (by omega)
  rw [← this]
  congr 1

set_option maxHeartbeats 1000000 in
set_option maxRecDepth 100000 in
theorem rwide_any (f m : Nat) (hf : f ≤ 1000000) (hm9 : 9 ≤ m) (hm : m ≤ 12) (w : World) :
    Calls Try.prog 56 #[.int .i64 (f : Int), .int .i64 (m : Int)] w fun e w' => e = .returned (.int .i64 (widP f m : Int)) ∧ w' = w := by
  go_enter Try.func56, Try.ntmps56
  go_wp2_with fail
  go_loop [5] (fun iv => ∃ q : Nat, iv = .int .i64 (q : Int) ∧ 9 ≤ q ∧ q ≤ m ∧ ∀ j, 9 ≤ j → j < q → 2 ^ j ≤ f) (fun iv => ((m : Int) - intOf iv).toNat)
  case atStart => exact ⟨9, rfl, Nat.le_refl _, hm9, fun j h1 h2 => by omega⟩
  case round =>
    obtain ⟨q, rfl, h9, hqm, hall⟩ := hrel
    have hallH : Hid (∀ j, _) := hall
    clear hall
    by_cases hlt : (q : Int) < (m : Int)
    · have hq : q = 9 ∨ q = 10 ∨ q = 11 := by omega
      by_cases hfq : 2 ^ q ≤ f
      · have hn : Hid (∀ j, 9 ≤ j → j < q + 1 → 2 ^ j ≤ f) := fun j h1 h2 => by
          by_cases hj : j = q
          · subst hj; exact hfq
          · exact hallH.out j h1 (by omega)
        clear hallH
        have hq12 : Hid (q + 1 ≤ m) := by show q + 1 ≤ m; omega
        rcases hq with rfl | rfl | rfl <;>
        · simp only [Nat.reducePow] at hfq
          have hz : ¬ (f : Int) < _ := Int.not_lt.2 (Int.ofNat_le.2 hfq)
          go_wp2
          refine ⟨⟨_, rfl, by decide, hq12.out, hn.out⟩, ?_⟩
          simp only [intOf]; omega
      · have hw : Hid (widP f m = q) := by
          have a9 := hallH.out 9 (by omega)
          have a10 := hallH.out 10 (by omega)
          show widP f m = q
          unfold widP
          rcases hq with rfl | rfl | rfl
          · rw [if_pos (by simp at hfq; omega)]
          · have := a9 (by omega)
            simp at hfq this
            rw [if_neg (by omega), if_pos (by omega)]
          · have t1 := a9 (by omega)
            have t2 := a10 (by omega)
            simp at hfq t1 t2
            rw [if_neg (by omega), if_neg (by omega), if_pos (by omega)]
        clear hallH
        rcases hq with rfl | rfl | rfl <;>
        · simp only [Nat.reducePow] at hfq
          have hz : (f : Int) < _ := Int.ofNat_lt.2 (Nat.lt_of_not_le hfq)
          go_wp2
          go_ret
          exact ⟨ret_int (by rw [hw.out]; rfl), rfl⟩
    · have hw : Hid (widP f m = m) := by
        have hqe : q = m := by omega
        have a9 := hallH.out 9 (by omega)
        have a10 := hallH.out 10 (by omega)
        have a11 := hallH.out 11 (by omega)
        show widP f m = m
        have hq : m = 9 ∨ m = 10 ∨ m = 11 ∨ m = 12 := by omega
        rw [hqe] at a9 a10 a11
        unfold widP
        rcases hq with rfl | rfl | rfl | rfl
        · rw [if_pos (by omega)]
        · have := a9 (by omega)
          simp at this
          rw [if_neg (by omega), if_pos (by omega)]
        · have t1 := a9 (by omega)
          have t2 := a10 (by omega)
          simp at t1 t2
          rw [if_neg (by omega), if_neg (by omega), if_pos (by omega)]
        · have t1 := a9 (by omega)
          have t2 := a10 (by omega)
          have t3 := a11 (by omega)
          simp at t1 t2 t3
          rw [if_neg (by omega), if_neg (by omega), if_neg (by omega)]
      clear hallH
      go_wp2
      go_ret
      exact ⟨ret_int (by rw [hw.out]), rfl⟩

/-- The entry of a number. -/
def entB (tab : List ByteArray) (c : Nat) : ByteArray := if c < 256 then ⟨#[c.toUInt8]⟩ else tab.getD (c - 257) ByteArray.empty
def strRow (l : List ByteArray) : List Value := l.map Value.string

set_option maxHeartbeats 1000000 in
set_option maxRecDepth 100000 in
theorem entry_any (tab : List ByteArray) (v : Value) (Bd : Nat) (c : Nat) (hc : c < 256 ∨ (257 ≤ c ∧ c - 257 < tab.length)) (ht : tab.length ≤ 10000) (w : World) (hown : w.ownsRow Bd 9 1 v tab.length (strRow tab)) :
    Calls Try.prog 114 #[v, .int .i64 (c : Int)] w fun e w' => e = .returned (.string (entB tab c)) ∧ Kept [] w w' := by
  by_cases h : (c : Int) < 256
  · obtain ⟨a, k, cap, rfl⟩ := own_shape hown
    have e : Hid (entB tab c = ⟨#[c.toUInt8]⟩) := if_pos (by omega)
    have hk : Hid (∀ o, Kept [] w (w.alloc o)) := fun o => (Kept.refl [] w).alloc o
    have hc8 : (c.toUInt8.toNat : Int) = (c : Int) := by rw [Nat.toUInt8_eq, UInt8.toNat_ofNat']; omega
    have hconv : (convert 98 9 (.slice (some ⟨w.heap.size, 0, none⟩) 1 1)).run Try.prog (w.alloc (.cells #[.int .u8 (c : Int)] 5)) = .ok (.string ⟨#[c.toUInt8]⟩) (w.alloc (.cells #[.int .u8 (c : Int)] 5)) := by
      refine run_convert_bytes_back (P := Try.prog) (w.alloc (.cells #[.int .u8 (c : Int)] 5)) 98 9 5 ⟨w.heap.size, 0, none⟩ 1 [c.toUInt8] Try.underlying98 Try.underlying5 Try.underlying9 (fun j hj => ?_)
      have hj0 : j = 0 := by simp at hj; omega
      subst hj0
      rw [ptr_add, (Blk.new w #[.int .u8 (c : Int)] 5).cell]
      show some (Value.int .u8 (c : Int)) = some (.int .u8 (c.toUInt8.toNat : Int))
      rw [hc8]
    clear hown hc8
    go_enter Try.func114, Try.ntmps114
    go_wp2
    go_ret
    exact ⟨by rw [e.out]; rfl, hk.out _⟩
  · obtain ⟨d, rfl⟩ : ∃ d, c = d + 257 := ⟨c - 257, by omega⟩
    have hd : d < tab.length := by omega
    obtain ⟨g, cap, rfl⟩ := own_form hown (by omega)
    have hcell : w.cell? ⟨g, d, none⟩ = some (.string (tab.getD d ByteArray.empty)) := by
      have := hown.cells (g := g) rfl d (.string (tab.getD d ByteArray.empty)) (by simp [strRow, List.getD, hd])
      rwa [ptr_add] at this
    have e : Hid (entB tab (d + 257) = tab.getD d ByteArray.empty) := by
      show entB _ _ = _
      unfold entB; rw [if_neg (by omega), Nat.add_sub_cancel]
    have lt : (d : Int) < (tab.length : Int) := by omega
    generalize tab.length = n at *
    generalize tab.getD d ByteArray.empty = s at *
    clear hown h hc
    go_enter Try.func114, Try.ntmps114
    go_wp2
    go_ret
    exact ⟨by rw [e.out]; rfl, Kept.refl _ _⟩

end Go.Proofs.Ytgifhgnccmnbiaa

set_option linter.unusedVariables false
set_option linter.unusedSimpArgs false
namespace Go.Proofs.Ytgifhgnccmnbiaa
open Go.RowKit Go.IntWalk

structure ZB where
  p : Nat := 0
  n : Nat := 0
  out : ByteArray := ByteArray.empty
  tab : List ByteArray := []
  last : ByteArray := ByteArray.empty
def frB (r : ZB) : Nat := 257 + r.tab.length
def zwB (m : Nat) (r : ZB) : Nat := widP (frB r) m
def zgoB (B : ByteArray) (m : Nat) (r : ZB) : Bool := decide (r.p + zwB m r ≤ 8 * B.size)
def nowB (r : ZB) (c : Nat) : ByteArray := if c = frB r then r.last ++ r.last.extract 0 1 else entB r.tab c
/-- What a code comes to; none: the file is none. -/
def tkB (m : Nat) (r : ZB) (c : Nat) : Option ZB :=
  if c = 256 then some { r with p := r.p + zwB m r, n := r.n + 1, tab := [], last := ByteArray.empty }
  else if r.last.size = 0 ∧ 256 < c then none
  else if frB r < c ∨ (c = frB r ∧ ¬ frB r < 2 ^ m) then none
  else some { p := r.p + zwB m r, n := r.n + 1, out := r.out ++ nowB r c, tab := if r.last.size ≠ 0 ∧ frB r < 2 ^ m then r.tab ++ [r.last ++ (nowB r c).extract 0 1] else r.tab, last := nowB r c }
def zsB (B : ByteArray) (m : Nat) (r : ZB) : Option ZB := tkB m r (numB B r.p (zwB m r)).1
def zitB (B : ByteArray) (m : Nat) : Nat → Option ZB
  | 0 => some {}
  | n + 1 => (zitB B m n).bind (zsB B m)

/-- The bounds that stay. -/
structure ZBI (B : ByteArray) (r : ZB) : Prop where
  p : 9 * r.n ≤ r.p
  pb : r.p ≤ 8 * B.size
  tab : r.tab.length ≤ r.n
  ent : ∀ s, s ∈ r.tab → 1 ≤ s.size ∧ s.size ≤ r.n + 1
  last : r.last.size ≤ r.n
  out : r.out.size ≤ 5000 * r.n
theorem zbi0 (B : ByteArray) : ZBI B {} := ⟨by simp, by simp, by simp, by simp, Nat.le_refl 0, Nat.zero_le _⟩
theorem ba_size_app (a b : ByteArray) : (a ++ b).size = a.size + b.size := by simp
theorem entB_size {r : ZB} {B : ByteArray} (h : ZBI B r) {c : Nat} (hc : c < 256 ∨ (257 ≤ c ∧ c - 257 < r.tab.length)) : 1 ≤ (entB r.tab c).size ∧ (entB r.tab c).size ≤ r.n + 1 := by
  unfold entB
  split
  · exact ⟨Nat.le_refl 1, by show 1 ≤ _; omega⟩
  · have : r.tab.getD (c - 257) ByteArray.empty ∈ r.tab := by
      rw [List.getD, List.getElem?_eq_getElem (by omega)]; exact List.getElem_mem _
    exact h.ent _ this
theorem nowB_size {r : ZB} {B : ByteArray} (h : ZBI B r) {c : Nat} (h0 : c ≠ 256) (hl : ¬ (r.last.size = 0 ∧ 256 < c)) (hc : c ≤ frB r) : 1 ≤ (nowB r c).size ∧ (nowB r c).size ≤ r.n + 1 := by
  unfold nowB
  split
  · rename_i he
    have h1 : r.last.size ≠ 0 := fun hx => hl ⟨hx, by unfold frB at he; omega⟩
    have := h.last
    rw [ba_size_app, ByteArray.size_extract]
    omega
  · refine entB_size h ?_
    unfold frB at *
    omega
theorem ZBI.take {B : ByteArray} {m : Nat} {r r' : ZB} (h : ZBI B r) (hg : zgoB B m r = true) (hB : B.size ≤ 4000) {c : Nat} (ht : tkB m r c = some r') : ZBI B r' := by
  have hg' : r.p + zwB m r ≤ 8 * B.size := by unfold zgoB at hg; simpa using hg
  have hw := widP_bd (frB r) m
  have hwz : zwB m r = widP (frB r) m := rfl
  have h1 := h.p
  have hn : r.n ≤ 3600 := by have := h.pb; omega
  unfold tkB at ht
  split at ht
  · simp only [Option.some.injEq] at ht
    subst ht
    exact ⟨by simp only []; omega, hg', by simp, by simp, by show 0 ≤ _; omega, by have := h.out; simp only []; omega⟩
  · split at ht
    · cases ht
    · split at ht
      · cases ht
      · rename_i h0 hl hc
        simp only [Option.some.injEq] at ht
        subst ht
        have hs := nowB_size h h0 hl (by omega)
        have hla := h.last
        have hta := h.tab
        refine ⟨by simp only []; omega, hg', ?_, fun s hs2 => ?_, by simp only []; omega, by have := h.out; simp only []; rw [ba_size_app]; omega⟩
        · simp only []
          split
          · rw [List.length_append, List.length_singleton]; omega
          · omega
        · simp only [] at hs2 ⊢
          split at hs2
          · rename_i hj
            rcases List.mem_append.1 hs2 with hs2 | hs2
            · have := h.ent s hs2; omega
            · simp at hs2
              subst hs2
              rw [ba_size_app, ByteArray.size_extract]
              omega
          · have := h.ent s hs2; omega

structure ZBM (w0 w : World) (r : ZB) (ov tv : Value) : Prop where
  out : w.ownsRow w0.heap.size 5 1 ov r.out.size (Lib.strCells r.out)
  tab : w.ownsRow w0.heap.size 9 1 tv r.tab.length (strRow r.tab)
  kept : Kept [] w0 w
theorem strCells_app (a b : ByteArray) : Lib.strCells (a ++ b) = Lib.strCells a ++ Lib.strCells b := by
  unfold Lib.strCells
  rw [ByteArray.data_append, Array.toList_append, List.map_append]
theorem strRow_snoc (l : List ByteArray) (s : ByteArray) : strRow (l ++ [s]) = strRow l ++ [.string s] := by simp [strRow]
theorem ZBM.keep {w0 w w' : World} {r : ZB} {ov tv : Value} (h : ZBM w0 w r ov tv) (k : Kept [] w w') : ZBM w0 w' r ov tv :=
  ⟨row_stay h.out k (fun _ _ => by simp), row_stay h.tab k (fun _ _ => by simp), h.kept.trans k⟩
theorem grow_kept {w0 w w' : World} {v : Value} {e z n : Nat} {xs : List Value} (k : Kept [] w0 w) (h : w.ownsRow w0.heap.size e z v n xs) (g : w.grownBy w' v.ownBlock) : Kept [] w0 w' :=
  ⟨g.os.trans k.os, g.tape.trans k.tape, g.output.trans k.output, Nat.le_trans k.size g.size, fun i hi _ => (g.block i (Nat.lt_of_lt_of_le hi k.size) (fun hc => by have := (h.lt i hc.symm).1; omega)).trans (k.block i hi (by simp))⟩
theorem ZBM.outGrow {w0 w w' : World} {r : ZB} {ov tv v' : Value} {s : ByteArray} (h : ZBM w0 w r ov tv) (ho : w'.ownsRow w0.heap.size 5 1 v' (r.out.size + s.size) (Lib.strCells r.out ++ Lib.strCells s)) (g : w.grownBy w' ov.ownBlock) :
    ZBM w0 w' { r with out := r.out ++ s } v' tv :=
  ⟨by rw [show ({ r with out := r.out ++ s } : ZB).out = r.out ++ s from rfl, ba_size_app, strCells_app]; exact ho, World.ownsRow.kept h.tab g (own_ne h.tab h.out (by decide)), grow_kept h.kept h.out g⟩
theorem ZBM.tabGrow {w0 w w' : World} {r : ZB} {ov tv v' : Value} {s : ByteArray} (h : ZBM w0 w r ov tv) (ho : w'.ownsRow w0.heap.size 9 1 v' (r.tab.length + 1) (strRow r.tab ++ [.string s])) (g : w.grownBy w' tv.ownBlock) :
    ZBM w0 w' { r with tab := r.tab ++ [s] } ov v' :=
  ⟨World.ownsRow.kept h.out g (own_ne h.out h.tab (by decide)), by rw [show ({ r with tab := r.tab ++ [s] } : ZB).tab = r.tab ++ [s] from rfl, strRow_snoc, List.length_append]; exact ho, grow_kept h.kept h.tab g⟩

/-- The highest bit first. -/
theorem num_high {B : ByteArray} {p w j C : Nat} (hj : j < w) (hin : p + w ≤ 8 * B.size) (h : (numB B p w).1 = (numB B p (j + 1)).1 + C * 2 ^ (j + 1)) : (numB B p w).1 = (numB B p j).1 + (2 * C + bitP B (p + j)) * 2 ^ j := by
  have key : ∀ i, p + i ≤ 8 * B.size → (numB B p i).2 = p + i := by
    intro i
    induction i with
    | zero => intro _; rfl
    | succ i ih =>
      intro hi
      show (nextB B (numB B p i).2).2 = _
      rw [ih (by omega)]
      unfold nextB; rw [if_pos (by omega)]; rfl
  have e : (numB B p (j + 1)).1 = (numB B p j).1 + bitP B (p + j) * 2 ^ j := by
    show (numB B p j).1 + (nextB B (numB B p j).2).1 * 2 ^ j = _
    rw [key j (by omega)]
    unfold nextB; rw [if_pos (by omega)]
  rw [h, e, Nat.pow_succ, Nat.add_mul, Nat.add_assoc]
  congr 1
  rw [Nat.add_comm, ← Nat.mul_assoc, Nat.mul_comm (C * 2 ^ j) 2, ← Nat.mul_assoc]

end Go.Proofs.Ytgifhgnccmnbiaa
