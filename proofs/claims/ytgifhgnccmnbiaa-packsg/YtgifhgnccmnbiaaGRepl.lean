/- Package packed: a pair replaced. -/
import Derived.Test.YtgifhgnccmnbiaaGBest
set_option linter.unusedVariables false
set_option linter.unusedSimpArgs false
namespace Go.Proofs.Ytgifhgnccmnbiaa
open Go.RowKit Go.IntWalk

theorem replL_nil (a b s : Nat) : replL a b s [] = [] := by rw [replL]; intro _ _ _ h; cases h
theorem replL_one (a b s x : Nat) : replL a b s [x] = [x] := by rw [replL]; intro _ _ _ h; cases h
theorem replL_two (a b s x y : Nat) (r : List Nat) : replL a b s (x :: y :: r) = if x = a ∧ y = b then s :: replL a b s r else x :: replL a b s (y :: r) := by rw [replL]
theorem replL_hit {a b s : Nat} {l : List Nat} {i : Nat} (hi : i + 1 < l.length) (h1 : l.getD i 0 = a) (h2 : l.getD (i + 1) 0 = b) : replL a b s (l.drop i) = s :: replL a b s (l.drop (i + 2)) := by
  have e : l.drop i = l[i] :: l[i + 1] :: l.drop (i + 2) := by rw [List.drop_eq_getElem_cons (by omega), List.drop_eq_getElem_cons hi]
  have g1 : l.getD i 0 = l[i] := by simp [List.getD, (by omega : i < l.length)]
  have g2 : l.getD (i + 1) 0 = l[i + 1] := by simp [List.getD, hi]
  rw [e, replL_two, if_pos ⟨by rw [← g1]; exact h1, by rw [← g2]; exact h2⟩]
theorem replL_miss {a b s : Nat} {l : List Nat} {i : Nat} (hi : i < l.length) (h : ¬ (l.getD i 0 = a ∧ i + 1 < l.length ∧ l.getD (i + 1) 0 = b)) : replL a b s (l.drop i) = l.getD i 0 :: replL a b s (l.drop (i + 1)) := by
  have g1 : l.getD i 0 = l[i] := by simp [List.getD, hi]
  by_cases h2 : i + 1 < l.length
  · have e : l.drop i = l[i] :: l[i + 1] :: l.drop (i + 2) := by rw [List.drop_eq_getElem_cons (by omega), List.drop_eq_getElem_cons h2]
    have e2 : l.drop (i + 1) = l[i + 1] :: l.drop (i + 2) := List.drop_eq_getElem_cons h2
    have g2 : l.getD (i + 1) 0 = l[i + 1] := by simp [List.getD, h2]
    rw [e, e2, replL_two, if_neg (fun hc => h ⟨by rw [g1]; exact hc.1, h2, by rw [g2]; exact hc.2⟩), g1]
  · have e2 : l.drop (i + 1) = [] := List.drop_eq_nil_of_le (by omega)
    rw [List.drop_eq_getElem_cons hi, e2, replL_one, replL_nil, g1]
theorem replL_len (a b s : Nat) : ∀ (n : Nat) (l : List Nat), l.length ≤ n → (replL a b s l).length ≤ l.length
  | n, [], _ => by rw [replL_nil]; exact Nat.le_refl _
  | n, [x], _ => by rw [replL_one]; exact Nat.le_refl _
  | 0, x :: y :: r, h => by simp at h
  | n + 1, x :: y :: r, h => by
    rw [replL_two]
    split
    · have := replL_len a b s n r (by simp at h; omega)
      simp; omega
    · have := replL_len a b s n (y :: r) (by simp at h ⊢; omega)
      simp at this ⊢; omega
theorem replL_mem {a b s : Nat} : ∀ (n : Nat) (l : List Nat), l.length ≤ n → ∀ c, c ∈ replL a b s l → c = s ∨ c ∈ l
  | n, [], _, c, h => by rw [replL_nil] at h; exact Or.inr h
  | n, [x], _, c, h => by rw [replL_one] at h; exact Or.inr h
  | 0, x :: y :: r, h, _, _ => by simp at h
  | n + 1, x :: y :: r, hl, c, h => by
    rw [replL_two] at h
    split at h
    · rcases List.mem_cons.1 h with h | h
      · exact Or.inl h
      · rcases replL_mem n r (by simp at hl; omega) c h with h | h
        · exact Or.inl h
        · exact Or.inr (by simp [h])
    · rcases List.mem_cons.1 h with h | h
      · exact Or.inr (by simp [h])
      · rcases replL_mem n (y :: r) (by simp at hl ⊢; omega) c h with h | h
        · exact Or.inl h
        · exact Or.inr (List.mem_cons_of_mem _ h)

structure RpI (w wr : World) (p : Cand) (ov : Value) (O : List Nat) : Prop where
  k : Kept [] w wr
  row : wr.ownsRow (w.heap.size + 1) 3 1 ov O.length (symCells O)
  pb : Blk wr w.heap.size (pcells p) 151
theorem RpI.grow {w wr w' w3 : World} {p : Cand} {ov v' : Value} {O : List Nat} {x : Nat} (h : RpI w wr p ov O) (k : Kept [] wr w') (g : w'.grownBy w3 ov.ownBlock) (hown : w3.ownsRow (w.heap.size + 1) 3 1 v' (O.length + 1) (symCells O ++ [.int .i64 (x : Int)])) : RpI w w3 p v' (O ++ [x]) := by
  have hge : ∀ i, i ≤ w.heap.size → some i ≠ ov.ownBlock := fun i hi hc => by have := (h.row.lt i hc.symm).1; omega
  have hb := h.pb.kept k (by simp)
  have k2 := h.k.trans k
  refine ⟨⟨g.os.trans k2.os, g.tape.trans k2.tape, g.output.trans k2.output, Nat.le_trans k2.size g.size, fun i hi _ => (g.block i (Nat.lt_of_lt_of_le hi k2.size) (hge i (by omega))).trans (k2.block i hi (by simp))⟩, ?_, (g.block _ hb.lt (hge _ (Nat.le_refl _))).trans hb⟩
  rw [List.length_append, symCells_snoc]
  exact hown
structure RepOut (w w' : World) (v : Value) (O : List Nat) : Prop where
  k : Kept [] w w'
  row : w'.ownsRow w.heap.size 3 1 v O.length (symCells O)
theorem row_base {w : World} {b b' e z n : Nat} {v : Value} {xs : List Value} (h : w.ownsRow b e z v n xs) (hb : b' ≤ b) : w.ownsRow b' e z v n xs := by
  refine ⟨h.1, ?_⟩
  rcases h.2 with h1 | ⟨g, cap, cur, h1, h2, r⟩
  · exact Or.inl h1
  · exact Or.inr ⟨g, cap, cur, h1, Nat.le_trans hb h2, r⟩

set_option maxHeartbeats 4000000 in
set_option maxRecDepth 100000 in
theorem replaced_any {l : List Nat} {v : Value} {base : Nat} (w : World) (hrow : w.ownsRow base 3 1 v l.length (symCells l)) (hl : l.length ≤ 600) (p : Cand) (s : Nat) (hs : s < 1000) :
    Calls Try.prog 86 #[v, PV p, .int .i64 (s : Int)] w fun e w' => ∃ v', e = .returned v' ∧ RepOut w w' v' (replL p.a p.b s l) := by
  obtain ⟨va, vk, vc, rfl⟩ := own_shape hrow
  have hvk : vk = l.length := by
    rcases hrow.2 with ⟨h1, h2⟩ | ⟨g, cap, _, h1, _⟩
    · simp at h1; omega
    · simp at h1; omega
  subst hvk
  have hrowH : Hid (World.ownsRow _ _ _ _ _ _ _) := hrow
  clear hrow
  obtain ⟨n, a, b⟩ := p
  unfold PV
  simp only []
  have hst : Hid (RpI w (w.alloc (.cells (pcells ⟨n, a, b⟩) 151)) ⟨n, a, b⟩ (.slice none 0 0) []) := ⟨(Kept.refl [] w).alloc _, by exact World.ownsRow_nil _ _ _ _, Blk.new _ _ _⟩
  have h0 : Hid (replL a b s (l.drop 0) = replL a b s l) := rfl
  go_enter Try.func86, Try.ntmps86
  go_wp2_with fail
  go_loopw [7, 8] (fun ov iv wr => ∃ (i : Nat) (O : List Nat) (xa : Option Addr) (xk xc : Nat), ov = .slice xa xk xc ∧ iv = .int .i64 (i : Int) ∧ i ≤ l.length ∧ O.length ≤ i ∧ O ++ replL a b s (l.drop i) = replL a b s l ∧ RpI w wr ⟨n, a, b⟩ (.slice xa xk xc) O) (fun _ iv _ => ((l.length : Int) - intOf iv).toNat)
  case atStart => exact ⟨0, [], none, 0, 0, rfl, rfl, Nat.zero_le _, Nat.le_refl _, rfl, hst.out⟩
  case round =>
    obtain ⟨i, O, xa, xk, xc, rfl, rfl, hi, hO, hsum, hI⟩ := hrel
    have hsum : Hid (_ = _) := hsum
    clear hst h0
    by_cases hlt : (i : Int) < (l.length : Int)
    · have hi1 : i < l.length := by omega
      have hr2 := row_stay (S := []) hrowH.out hI.k (fun _ _ => by simp)
      obtain ⟨rg, rcap, hv⟩ := own_form hrowH.out (by omega)
      simp only [Value.slice.injEq, true_and] at hv
      obtain ⟨rfl, rfl⟩ := hv
      obtain ⟨x, hx⟩ : ∃ x, l.getD i 0 = x := ⟨_, rfl⟩
      have c1 : wr.cell? ⟨rg, i, none⟩ = some (.int .i64 (x : Int)) := by
        have := hr2.cells (g := rg) rfl i _ (symCells_get l i hi1)
        rwa [ptr_add, hx] at this
      have q0 := hI.pb.cell 0
      have q1 := hI.pb.cell 1
      simp only [pcells, List.getElem?_toArray, List.getElem?_cons_zero, List.getElem?_cons_succ] at q0 q1
      have own : ∀ k o, ((wr.drewN k).alloc o).ownsRow (w.heap.size + 1) 3 1 (.slice xa xk xc) O.length (symCells O) := fun k o => row_stay (S := []) hI.row (((Kept.refl [] wr).drewN k).alloc o) (fun _ _ => by simp)
      have kal : Hid (∀ k o, Kept [] wr ((wr.drewN k).alloc o)) := fun k o => ((Kept.refl [] wr).drewN k).alloc o
      have mb : O.length + 1 ≤ maxLen := by unfold maxLen; omega
      have hwl : w.heap.size + 1 ≤ wr.heap.size := hI.pb.lt
      obtain ⟨i0, hi0, hz0, hz1, hz2⟩ := info_parts infoInt
      have hIH : Hid (RpI _ _ _ _ _) := hI
      have hmiss := fun h => replL_miss (a := a) (b := b) (s := s) hi1 h
      rw [hx] at hmiss
      by_cases hxa : x = a
      · subst hxa
        by_cases h1 : (i : Int) + 1 < (l.length : Int)
        · have h1n : i + 1 < l.length := by omega
          obtain ⟨y, hy⟩ : ∃ y, l.getD (i + 1) 0 = y := ⟨_, rfl⟩
          have c2 : wr.cell? ⟨rg, i + 1, none⟩ = some (.int .i64 (y : Int)) := by
            have := hr2.cells (g := rg) rfl (i + 1) _ (symCells_get l (i + 1) h1n)
            rwa [ptr_add, hy] at this
          by_cases hyb : y = b
          · subst hyb
            have hrp : Hid (_ = _) := replL_hit (s := s) h1n hx hy
            clear hmiss hr2 hx hy hI
            go_wp2_with fail
            go_quiet (fail)
            go_wp2_with (at_builtin; refine wpList_append_own _ rfl (.tmp 44) (.tmp 46) 77 rfl (w.heap.size + 1) 3 i0 _ 1 8 Try.underlying77 hi0 hz0 hz1 hz2 rfl (by decide) (.slice xa xk xc) O.length (symCells O) rfl (by exact own _ _) ⟨wr.heap.size, 0, none⟩ 1 1 [.int .i64 (s : Int)] rfl rfl (by exact cells_new _ _ _ _ rfl) (by simp [Value.oneCell']) mb (by omega) (by simp; omega) ?kk)
            case kk =>
              intro v' w3 hown hg _
              obtain ⟨gv, cap, rfl⟩ := own_form hown (by omega)
              have hI3 : Hid (RpI w w3 ⟨n, x, y⟩ (.slice (some ⟨gv, 0, none⟩) (O.length + 1) cap) (O ++ [s])) := hIH.out.grow (kal.out _ _) hg hown
              clear hown hg own
              go_wp2
              refine ⟨⟨i + 2, O ++ [s], _, _, _, rfl, by go_num, by omega, by simp; omega, by rw [← hsum.out, hrp.out]; simp, hI3.out⟩, ?_⟩
              simp only [intOf]; omega
          · have hrp : Hid (_ = _) := hmiss (fun hc => hyb (hy ▸ hc.2.2))
            have e1 : decide ((y : Int) = (b : Int)) = false := decide_eq_false (by omega)
            have e2 : ((y : Int) == (b : Int)) = false := by simp; omega
            clear hmiss hr2 hx hy hI hyb
            go_wp2_with fail
            go_quiet (fail)
            go_wp2_with (at_builtin; refine wpList_append_own _ rfl (.tmp 44) (.tmp 46) 77 rfl (w.heap.size + 1) 3 i0 _ 1 8 Try.underlying77 hi0 hz0 hz1 hz2 rfl (by decide) (.slice xa xk xc) O.length (symCells O) rfl (by exact own _ _) ⟨wr.heap.size, 0, none⟩ 1 1 [.int .i64 (x : Int)] rfl rfl (by exact cells_new _ _ _ _ rfl) (by simp [Value.oneCell']) mb (by omega) (by simp; omega) ?kk)
            case kk =>
              intro v' w3 hown hg _
              obtain ⟨gv, cap, rfl⟩ := own_form hown (by omega)
              have hI3 : Hid (RpI w w3 ⟨n, x, b⟩ (.slice (some ⟨gv, 0, none⟩) (O.length + 1) cap) (O ++ [x])) := hIH.out.grow (kal.out _ _) hg hown
              clear hown hg own
              go_wp2
              refine ⟨⟨i + 1, O ++ [x], _, _, _, rfl, by go_num, by omega, by simp; omega, by rw [← hsum.out, hrp.out]; simp, hI3.out⟩, ?_⟩
              simp only [intOf]; omega
        · have hrp : Hid (_ = _) := hmiss (fun hc => by omega)
          have e1 : decide ((i : Int) + 1 < (l.length : Int)) = false := decide_eq_false h1
          clear hmiss hr2 hx hI
          go_wp2_with fail
          go_quiet (fail)
          go_wp2_with (at_builtin; refine wpList_append_own _ rfl (.tmp 44) (.tmp 46) 77 rfl (w.heap.size + 1) 3 i0 _ 1 8 Try.underlying77 hi0 hz0 hz1 hz2 rfl (by decide) (.slice xa xk xc) O.length (symCells O) rfl (by exact own _ _) ⟨wr.heap.size, 0, none⟩ 1 1 [.int .i64 (x : Int)] rfl rfl (by exact cells_new _ _ _ _ rfl) (by simp [Value.oneCell']) mb (by omega) (by simp; omega) ?kk)
          case kk =>
            intro v' w3 hown hg _
            obtain ⟨gv, cap, rfl⟩ := own_form hown (by omega)
            have hI3 : Hid (RpI w w3 ⟨n, x, b⟩ (.slice (some ⟨gv, 0, none⟩) (O.length + 1) cap) (O ++ [x])) := hIH.out.grow (kal.out _ _) hg hown
            clear hown hg own
            go_wp2
            refine ⟨⟨i + 1, O ++ [x], _, _, _, rfl, by go_num, by omega, by simp; omega, by rw [← hsum.out, hrp.out]; simp, hI3.out⟩, ?_⟩
            simp only [intOf]; omega
      · have hrp : Hid (_ = _) := hmiss (fun hc => hxa hc.1)
        have e1 : decide ((x : Int) = (a : Int)) = false := decide_eq_false (by omega)
        have e2 : ((x : Int) == (a : Int)) = false := by simp; omega
        clear hmiss hr2 hx hI hxa
        go_wp2_with fail
        go_quiet (fail)
        go_wp2_with (at_builtin; refine wpList_append_own _ rfl (.tmp 44) (.tmp 46) 77 rfl (w.heap.size + 1) 3 i0 _ 1 8 Try.underlying77 hi0 hz0 hz1 hz2 rfl (by decide) (.slice xa xk xc) O.length (symCells O) rfl (by exact own _ _) ⟨wr.heap.size, 0, none⟩ 1 1 [.int .i64 (x : Int)] rfl rfl (by exact cells_new _ _ _ _ rfl) (by simp [Value.oneCell']) mb (by omega) (by simp; omega) ?kk)
        case kk =>
          intro v' w3 hown hg _
          obtain ⟨gv, cap, rfl⟩ := own_form hown (by omega)
          have hI3 : Hid (RpI w w3 ⟨n, a, b⟩ (.slice (some ⟨gv, 0, none⟩) (O.length + 1) cap) (O ++ [x])) := hIH.out.grow (kal.out _ _) hg hown
          clear hown hg own
          go_wp2
          refine ⟨⟨i + 1, O ++ [x], _, _, _, rfl, by go_num, by omega, by simp; omega, by rw [← hsum.out, hrp.out]; simp, hI3.out⟩, ?_⟩
          simp only [intOf]; omega
    · have e : i = l.length := by omega
      subst e
      have he : Hid (O = replL a b s l) := by
        have := hsum.out
        rw [List.drop_eq_nil_of_le (Nat.le_refl _), replL_nil, List.append_nil] at this
        exact this
      have hI : Hid (RpI _ _ _ _ _) := hI
      clear hsum
      go_wp2
      go_ret
      exact ⟨_, rfl, hI.out.k, by rw [← he.out]; exact row_base hI.out.row (Nat.le_succ _)⟩

end Go.Proofs.Ytgifhgnccmnbiaa
