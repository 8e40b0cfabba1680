/- Package packed: the commonest pair. -/
import Derived.Test.YtgifhgnccmnbiaaGCount
set_option linter.unusedVariables false
set_option linter.unusedSimpArgs false
namespace Go.Proofs.Ytgifhgnccmnbiaa
open Go.RowKit Go.IntWalk

def pcells (p : Cand) : Array Value := #[.int .i64 (p.a : Int), .int .i64 (p.b : Int), .int .i64 (p.n : Int)]
structure CmI (w wr : World) (B g : Nat) (l : List Nat) (i : Nat) : Prop where
  k : Kept [] w wr
  bb : Blk wr B (pcells (bestQ (candC l) i)) 151
  rb : Blk wr w.heap.size #[.int .i64 0, .int .i64 0, .int .i64 0] 151
  pb : Blk wr g (placeCells l 0) 202
  ne : w.heap.size < g ∧ g < B

theorem size_pair : (Try.prog.info? 151).map (·.size) = some 3 := by kernel_rfl
theorem results_pair {fn : Func} {r : Tmp} (h : fn.results = #[.cell r 151]) (tmps : Array Value) (w : World) (g : Nat) (p : Cand)
    (hp : tmps.getD r undef = .pointer (some ⟨g, 0, none⟩)) (hg : Blk w g (pcells p) 151) : (results fn tmps).run Try.prog w = .ok (PV p) w :=
  results_cell_row h tmps w g _ _ _ _ hp hg Try.underlying151 rfl size_pair
theorem pair_over {w : World} {B : Nat} {p q : Cand} (h : Blk w B (pcells p) 151) : Blk (((w.setCell ⟨B, 0, none⟩ (.int .i64 (q.a : Int))).setCell ⟨B, 1, none⟩ (.int .i64 (q.b : Int))).setCell ⟨B, 2, none⟩ (.int .i64 (q.n : Int))) B (pcells q) 151 := by
  have := ((h.set 0 (.int .i64 (q.a : Int))).set 1 (.int .i64 (q.b : Int))).set 2 (.int .i64 (q.n : Int))
  simpa [pcells] using this

set_option maxHeartbeats 4000000 in
set_option maxRecDepth 100000 in
theorem commonest_any {l : List Nat} {v : Value} {base : Nat} (w : World) (hrow : w.ownsRow base 3 1 v l.length (symCells l)) (hl : l.length ≤ 600) (hs : ∀ s, s ∈ l → s < 356) :
    Calls Try.prog 85 #[v] w fun e w' => e = .returned (PV (bestQ (candC l) (l.length - 1))) ∧ Kept [] w w' := by
  obtain ⟨va, vk, vc, rfl⟩ := own_shape hrow
  have hvk : vk = l.length := by
    rcases hrow.2 with ⟨h1, h2⟩ | ⟨g, cap, _, h1, _⟩
    · simp at h1; omega
    · simp at h1; omega
  subst hvk
  have hrowH : Hid (World.ownsRow _ _ _ _ _ _ _) := hrow
  clear hrow
  have hpl : Hid (∀ w', w'.ownsRow base 3 1 (.slice va l.length vc) l.length (symCells l) → Calls Try.prog 121 #[.slice va l.length vc] w' _) := fun w' h => placesOf_any w' h hl hs
  have hrow2 : Hid (∀ o, (w.alloc o).ownsRow base 3 1 (.slice va l.length vc) l.length (symCells l)) := fun o => row_stay (S := []) hrowH.out ((Kept.refl [] w).alloc o) (fun _ _ => by simp)
  go_enter Try.func85, Try.ntmps85
  go_wp2_with fail
  refine (hpl.out _ (hrow2.out _)).mono ?_
  rintro e w1 ⟨g, rfl, ho⟩
  have hoH : Hid (PlOut _ _ _ _) := ho
  clear ho hpl hrow2
  go_wp2_with fail
  have hst : Hid (CmI w (w1.alloc (.cells #[.int .i64 0, .int .i64 0, .int .i64 0] 151)) w1.heap.size g l 0) := by
    have hk := hoH.out.kept
    have hge := hoH.out.ge
    simp at hge
    refine ⟨(((Kept.refl [] w).alloc _).trans hk).alloc _, Blk.new _ _ _, ((Blk.new w _ _).kept hk (by simp)).alloc _, hoH.out.blk.alloc _, ?_, hoH.out.blk.lt⟩
    omega
  clear hoH
  generalize w1.heap.size = B at *
  have hend : l.length - 1 ≤ 600 := by omega
  go_loopw [5] (fun iv wr => ∃ i : Nat, iv = .int .i64 (i : Int) ∧ i ≤ l.length - 1 ∧ CmI w wr B g l i) (fun iv _ => ((l.length : Int) - intOf iv).toNat)
  case atStart => exact ⟨0, rfl, Nat.zero_le _, hst.out⟩
  case round =>
    obtain ⟨i, rfl, hi, hI⟩ := hrel
    clear hst
    by_cases hlt : (i : Int) + 1 < (l.length : Int)
    · have hi1 : i + 1 < l.length := by omega
      have hr2 := row_stay (S := []) hrowH.out hI.k (fun _ _ => by simp)
      obtain ⟨rg, rcap, hv⟩ := own_form hrowH.out (by omega)
      simp only [Value.slice.injEq, true_and] at hv
      obtain ⟨rfl, rfl⟩ := hv
      obtain ⟨a, ha⟩ : ∃ a, Hid (l.getD i 0 = a) := ⟨_, rfl⟩
      obtain ⟨b, hb⟩ : ∃ b, Hid (l.getD (i + 1) 0 = b) := ⟨_, rfl⟩
      obtain ⟨c, hc⟩ : ∃ c, Hid (metL (l.getD i 0) (l.getD (i + 1) 0) (l.drop i) = c) := ⟨_, rfl⟩
      have hcc : Hid (candC l i = ⟨c, a, b⟩) := by show _ = _; unfold candC; rw [hc.out, ha.out, hb.out]
      have c1 : wr.cell? ⟨rg, i, none⟩ = some (.int .i64 (a : Int)) := by
        rw [← ha.out]
        have := hr2.cells (g := rg) rfl i _ (symCells_get l i (by omega))
        rwa [ptr_add] at this
      have c2 : wr.cell? ⟨rg, i + 1, none⟩ = some (.int .i64 (b : Int)) := by
        rw [← hb.out]
        have := hr2.cells (g := rg) rfl (i + 1) _ (symCells_get l (i + 1) hi1)
        rwa [ptr_add] at this
      have hr1 : rg < wr.heap.size := (hr2.lt rg rfl).2
      have hr3 : ¬ rg = wr.heap.size := by omega
      have hi2 : i < l.length := by omega
      clear hr2
      have hIH : Hid (CmI _ _ _ _ _ _) := hI
      clear hI
      go_wp2
      go_region
      go_wp2_with fail
      obtain ⟨W, hW⟩ : ∃ W, (wr.alloc (.cells #[.int .i64 (a : Int), .int .i64 (b : Int), .int .i64 0] 151)).drew = W := ⟨_, rfl⟩
      rw [hW]
      have pP : Hid (Blk W wr.heap.size (pcells ⟨0, a, b⟩) 151) := by rw [← hW]; exact (Blk.new _ _ _).drew
      have pI : Hid (CmI w W B g l i) := by
        rw [← hW]
        exact ⟨(hIH.out.k.alloc _).drew, (hIH.out.bb.alloc _).drew, (hIH.out.rb.alloc _).drew, (hIH.out.pb.alloc _).drew, hIH.out.ne⟩
      have hBl : B < wr.heap.size := hIH.out.bb.lt
      have hRl : w.heap.size < B := by have := hIH.out.ne; omega
      clear hW hIH c1 c2 hr1 hr3
      generalize wr.heap.size = P at *
      have q0 := pP.out.cell 0
      have q1 := pP.out.cell 1
      have q2 := pP.out.cell 2
      have r2 := pP.out.frozen 2
      simp only [pcells, List.getElem?_toArray, List.getElem?_cons_zero, List.getElem?_cons_succ] at q0 q1 q2
      have hc' : metL (l.getD i 0) b (l.drop i) = c := by rw [← hb.out]; exact hc.out
      have hcf := countFrom_any (fr := i) (b := b) W pI.out.pb hl hi2
      rw [hc'] at hcf
      refine hcf.mono ?_
      intro e w2 h
      obtain ⟨he, hw⟩ := h
      rw [hw]
      subst he
      clear hw hcf hc' hc ha hb
      have b0 := pI.out.bb.cell 0
      have b1 := pI.out.bb.cell 1
      have b2 := pI.out.bb.cell 2
      simp only [pcells, List.getElem?_toArray, List.getElem?_cons_zero, List.getElem?_cons_succ] at b0 b1 b2
      have hne : ¬ B = P := by omega
      have hne2 : ¬ P = B := by omega
      go_wp2_with fail
      obtain ⟨V, hV⟩ : ∃ V, W.setCell ⟨P, 2, none⟩ (.int .i64 (c : Int)) = V := ⟨_, rfl⟩
      rw [hV]
      have pP : Hid (Blk V P (pcells ⟨c, a, b⟩) 151) := by rw [← hV]; have := pP.out.set 2 (.int .i64 (c : Int)); show Blk _ _ _ _; simpa [pcells] using this
      have pI : Hid (CmI w V B g l i) := by
        rw [← hV]
        have h := pI.out
        have := h.ne
        exact ⟨h.k.setCell (Or.inr (by simp; omega)) _, h.bb.other _ _ (by omega), h.rb.other _ _ (by omega), h.pb.other _ _ (by omega), h.ne⟩
      clear hV q0 q1 q2 r2 b0 b1 b2
      have htk := taken_any ⟨c, a, b⟩ (bestQ (candC l) i) V
      have hnx : bestQ (candC l) (i + 1) = if better ⟨c, a, b⟩ (bestQ (candC l) i) then ⟨c, a, b⟩ else bestQ (candC l) i := by
        show (if better (candC l i) (bestQ (candC l) i) then candC l i else bestQ (candC l) i) = _
        rw [hcc.out]
      by_cases hbt : better ⟨c, a, b⟩ (bestQ (candC l) i)
      · rw [decide_eq_true hbt] at htk
        rw [if_pos hbt] at hnx
        refine htk.mono ?_
        rintro e w3 ⟨rfl, k3⟩
        have pP3 := pP.out.kept k3 (by simp)
        have h := pI.out
        have pI3 : Hid (CmI w w3 B g l i) := ⟨h.k.trans k3, h.bb.kept k3 (by simp), h.rb.kept k3 (by simp), h.pb.kept k3 (by simp), h.ne⟩
        have q0 := pP3.cell 0
        have q1 := pP3.cell 1
        have q2 := pP3.cell 2
        have b0 := pI3.out.bb.cell 0
        have b1 := pI3.out.bb.cell 1
        have b2 := pI3.out.bb.cell 2
        have f0 := pI3.out.bb.frozen 0
        have f1 := pI3.out.bb.frozen 1
        have f2 := pI3.out.bb.frozen 2
        simp only [pcells, List.getElem?_toArray, List.getElem?_cons_zero, List.getElem?_cons_succ] at q0 q1 q2 b0 b1 b2
        have hnx : Hid (_ = _) := hnx
        clear htk hbt h pP3 k3
        go_wp2
        have hn := pI3.out.ne
        refine ⟨⟨i + 1, by go_num, by omega, ⟨((pI3.out.k.setCell (Or.inr (by simp; omega)) _).setCell (Or.inr (by simp; omega)) _).setCell (Or.inr (by simp; omega)) _, ?_, ((pI3.out.rb.other _ _ (by omega)).other _ _ (by omega)).other _ _ (by omega), ((pI3.out.pb.other _ _ (by omega)).other _ _ (by omega)).other _ _ (by omega), hn⟩⟩, ?_⟩
        · rw [hnx.out]; exact pair_over (q := ⟨c, a, b⟩) pI3.out.bb
        · simp only [intOf]; omega
      · rw [decide_eq_false hbt] at htk
        rw [if_neg hbt] at hnx
        refine htk.mono ?_
        rintro e w3 ⟨rfl, k3⟩
        have h := pI.out
        have pI3 : Hid (CmI w w3 B g l (i + 1)) := ⟨h.k.trans k3, by rw [hnx]; exact h.bb.kept k3 (by simp), h.rb.kept k3 (by simp), h.pb.kept k3 (by simp), h.ne⟩
        clear htk hbt h k3 hnx
        go_wp2
        refine ⟨⟨i + 1, by go_num, by omega, pI3.out⟩, ?_⟩
        simp only [intOf]; omega
    · have e : i = l.length - 1 := by omega
      subst e
      have b0 := hI.bb.cell 0
      have b1 := hI.bb.cell 1
      have b2 := hI.bb.cell 2
      have d0 := hI.rb.cell 0
      have d1 := hI.rb.cell 1
      have d2 := hI.rb.cell 2
      have f0 := hI.rb.frozen 0
      have f1 := hI.rb.frozen 1
      have f2 := hI.rb.frozen 2
      simp only [pcells, List.getElem?_toArray, List.getElem?_cons_zero, List.getElem?_cons_succ] at b0 b1 b2 d0 d1 d2
      have hIH : Hid (CmI _ _ _ _ _ _) := hI
      clear hI
      go_wp2
      have H : Hid (Kept [] w (((wr.setCell ⟨w.heap.size, 0, none⟩ (.int .i64 ((bestQ (candC l) (l.length - 1)).a : Int))).setCell ⟨w.heap.size, 1, none⟩ (.int .i64 ((bestQ (candC l) (l.length - 1)).b : Int))).setCell ⟨w.heap.size, 2, none⟩ (.int .i64 ((bestQ (candC l) (l.length - 1)).n : Int)))) := ((hIH.out.k.setCell (Or.inr (Nat.le_refl _)) _).setCell (Or.inr (Nat.le_refl _)) _).setCell (Or.inr (Nat.le_refl _)) _
      exact bodyPost_ret (v := PV (bestQ (candC l) (l.length - 1))) (results_pair Try.results85 _ _ _ _ rfl (pair_over (p := ⟨0, 0, 0⟩) hIH.out.rb)) rfl ⟨rfl, H.out⟩

end Go.Proofs.Ytgifhgnccmnbiaa
